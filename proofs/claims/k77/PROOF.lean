import PyProof.Rows.All
import Wide.All
import OpenK.AllK
import Wide.FinOn
import HandS.Iter
import HandS.Comp
import HandS.Text
import HandS.Codes
import HandS.Call
import HandS.Walk
import PyProof.EnumMake
import KE.GoesMore
import KE.GoesEnum
import KE.GoesNew
import KE.KDictZip
import HandS.Dict
import HandS.List
import HandS.Words
import HandS.Replace
import HandS.ForMost
import HandS.IsInst
import HandS.Zip
import OpenK.KMore
import HandS.Exc
import HandS.ExcInit
import HandS.ExcField
import HandS.HotCalls
import HandS.Lambda
import HandS.WordsExc
import HandS.CallSlots
import KE.KTryMore
import HandS.More
import PyProof.CollectStr
import HandS.Property
import HandS.Style
import HandS.OwnEq
import HandS.TryOnly
import HandS.Star
import HandS.FStr
import HandS.RaiseMore
import HandS.TupAny
import HandS.MakeKw
import HandS.MakeKwOnly
import KE.KCallOwn
import HandS.ReplaceList
import HandS.ReplaceLit
import HandS.DictComp
import HandS.ClsMeth
import HandS.Defaults
import HandS.Nested
import HandS.StrMore
import HandS.Head2
import HandS.HeadHook4
import HandS.HeadNt
import HandS.HeadWalk
import HandS.HeadEnd
import HandS.HeadHook3
import HandS.SortRule
import HandS.SetBool
import HandS.Conv
import PyProof.SetRoads
import PyProof.Rows.SetFrom
import KE.KDictKeyed
import HandS.TupLen
import KE.KOpsOwn
import HandS.Flow
import KE.GoesZip
import KE.KDictDisplayH
import HandS.SetFor
import HandS.Strs
import KE.KExcInit
import HandS.ExcBuiltin
import HandS.GenList
import HandS.SortInts
import HandS.Wide
import HandS.RevRange
import PyProof.Rows.StrLawsPart
import HandS.Rev
import PyProof.NeKinds
import PyProof.Rows.EqBoolInt
import HandS.WordsDict
import HandS.EndTab
import PySem.Challenge.RW_ownfill_k77_capacities_of_books
set_option Elab.async false
set_option linter.all false
set_option maxRecDepth 100000
set_option maxHeartbeats 4000000
namespace Own
open PySem PySem.Spec PyProof.Rows L2

/-! ### walks that give a new tuple at each turn -/
/-- what an iterator of new tuples gives, in the library's words (GoesN), is a turn of the hand layer: at turn i the tuple's items are some vs with R i vs -/
theorem turn_tuples {P : Program} {w : World} {K : PySem.W.Frag} {tg : Expr} {I : Addr} {fp wr : List Addr} {n : Nat} {St : Nat → Heap → Prop}
    {Y : Nat → Heap → Value → Heap → Prop} {R : Nat → List V → Prop} {J : It} (W : ∀ A : Around, A.handled = none → GoesN P w A tg I fp wr n Y St)
    (hY : ∀ i h0 u h, Y i h0 u h → ∃ T vs us, u = .ref T ∧ h0.objs.size ≤ T ∧ vs.length ≤ sizeLine ∧ R i vs ∧ Vals vs us ∧ h.IsTuple T us.toArray)
    (mem : I ∈ fp) (obj : ∀ i h, St i h → ∀ b ∈ fp, ∃ o, h.get? b = some o ∧ ∀ v, o.data ≠ .cell v)
    (self : ∀ (A : Around) (i : Nat) (s : Shared) (Q : Value → Shared → Prop) (E : Value → Shared → Prop), St i s.heap → Q (.ref I) s → wpAny (model P w) A (pyIter (.ref I)) Q E s)
    (go : ∀ i H, J.go i H → i < n) (stop : ∀ i H, J.stop i H → i = n) (yld : ∀ i H T vs, H T = none → R i vs → J.yld i H (.ref T) (upd H T (.tup vs))) :
    Turn P w K tg J fp I St := by
  refine ⟨mem, obj, fun i h h' st k => (W callerA rfl).frame i h h' st k, ?_, ?_, self⟩
  · rintro X rfl rfl rfl calm i pins s σ H E I0 off st hg
    have G := W X.A (I0.ok.hd calm)
    refine G.goes i s (fun u s2 => ∃ x H', Inv X pins σ H' s2 ∧ RelV x u ∧ J.yld i H x H' ∧ St (i + 1) s2.heap ∧ ∀ b ∈ fp, H' b = none) E (go i H hg) st fun u h tk y st' rest _ => ?_
    obtain ⟨T, vs, us, rfl, young, len, r, rel, tup⟩ := hY _ _ _ _ y
    refine ⟨.ref T, upd H T (.tup vs), ?_, rfl, yld i H T vs (I0.hok.fresh young) r, st', fun b hb => ?_⟩
    · refine I0.turnedNew (t' := tk) (ch := fp) (fun b o nb q => rest b o (fun m => nb (G.sub b m)) q) off young ?_
      obtain ⟨o, e1, e2, e3⟩ := tup
      exact ⟨len, us, rel, o, e1, e2, e3⟩
    · obtain ⟨o, ho, _⟩ := obj i s.heap st b hb
      rw [upd_ne (Nat.ne_of_lt (Nat.lt_of_lt_of_le (Heap.lt_size ho) young))]
      exact (off b hb).1
  · rintro X rfl rfl rfl calm i pins s σ H E I0 off st hg
    have G := W X.A (I0.ok.hd calm)
    rw [stop i H hg] at st
    exact G.stops s (fun s1 => Inv X pins σ H s1) E st fun h tk rest _ => I0.turnedL (t' := tk) (ch := fp) (fun b o nb q => rest b o (fun m => nb (G.sub b m)) q) off

/-! ### a text's signs numbered -/
def ItE (z : Str) : It :=
  ⟨fun i _ => i < z.cps.size,
   fun i H v H' => ∃ T c, v = .ref T ∧ H T = none ∧ z.cps[i]? = some c ∧
     H' = upd H T (.tup [.int (i : Nat), .str ⟨#[c]⟩]),
   fun i _ => i = z.cps.size⟩

theorem turnE {P : Program} {w : World} {K : PySem.W.Frag} {elts : List Expr} {kk : Nat} {tpos : Pos} (z : Str) (t : Tok) (e it : Addr) (ne : e ≠ it) :
    Turn P w K (.Tuple elts kk tpos) (ItE z) [e, it] e
      (fun i h => (∃ old, IsEnum h e it (0 + (i : Int)) old) ∧ h.IsStrIter it (strIterType z) z t i) := by
  refine turn_tuples (R := fun i vs => ∃ c, z.cps[i]? = some c ∧ vs = [.int (i : Nat), .str ⟨#[c]⟩])
    (fun A hh => GoesN.enumFrom (elts := elts) (x1 := kk) (pos := tpos) 0 (Draws.text (prog := P) (w := w) (A := A.in1) hh it z t) e ne
      (fun m => ne (List.mem_singleton.mp m)) (List.mem_singleton.mpr rfl)) ?_ List.mem_cons_self ?_ ?_ (fun _ _ h => h) (fun _ _ h => h) ?_
  · rintro i h0 u h ⟨T, k, x, rfl, young, ⟨c, v, hc, rfl⟩, tup⟩
    rw [Int.zero_add] at tup
    exact ⟨T, _, [_, _], rfl, young, by show 2 ≤ sizeLine; decide, ⟨c, hc, rfl⟩, .cons ⟨_, rfl⟩ (.cons ⟨_, rfl⟩ .nil), tup⟩
  · rintro i h ⟨⟨old, he⟩, ⟨o, ho, _, hd⟩⟩
    simp only [List.forall_mem_cons]
    exact ⟨⟨_, he, fun v => nofun⟩, ⟨o, ho, fun v q => by rw [hd] at q; cases q⟩, fun _ q => nomatch q⟩
  · rintro A i s Q E ⟨⟨_, he⟩, _⟩ h
    exact wpAny_pyIter_enum he h
  · rintro i H T vs free ⟨c, hc, rfl⟩
    exact ⟨T, c, rfl, free, hc, rfl⟩

def iEnS (ta : TA) : TI := fun σ H R => ta σ H fun vs H1 => ∃ z, vs = [.str z] ∧ R (ItE z) H1

theorem pi_enS {X : Cx} {e : Expr} {ta : TA} {p pos tpos : Pos} {elts : List Expr} {kk : Nat}
    (hg : Gl X "enumerate") (hm : X.mg "enumerate" = none) (ha : PA X [e] ta)
    (hs : starEach [e] X.env = [(false, eval e X.env)] := by rfl) :
    PI X (.Tuple elts kk tpos) (.Call (.Name "enumerate" p) [e] [] pos) (iEnS ta) := by
  constructor
  intro pins s σ H R I h
  refine Call_ (ld_blt I hg hm boot_enumerate (PyProof.Rows.callWith_type1 (thn (ha.run pos pins s σ H _ I h) ?_) hs rfl))
  rintro us s1 ⟨vs, H1, I1, r1, z, rfl, q⟩
  obtain ⟨u, rfl, t, rfl⟩ := vals1 r1
  refine call_enumerate_str fun h' he hit _ hk => wpAny_pyIter_enum he ?_
  refine ⟨s1.heap.objs.size + 1, [s1.heap.objs.size + 1, s1.heap.objs.size], _, _, H1, rfl, I1.kept hk, turnE z t _ _ (Nat.succ_ne_self _), ⟨⟨.none, he⟩, hit⟩, ?_, q⟩
  have young : ∀ b, s1.heap.objs.size ≤ b → FpOk X pins H1 b := fun b lb => I1.fpOk lb (I1.hok.fresh lb)
  simp only [List.forall_mem_cons]
  exact ⟨young _ (Nat.le_add_right _ _), young _ (Nat.le_refl _), fun _ q => nomatch q⟩

theorem walkE {z : Str} : Walk (ItE z) z.cps.size (fun _ => True)
    (fun i H v H' => ∃ T c, v = .ref T ∧ H T = none ∧ z.cps[i]? = some c ∧
      H' = upd H T (.tup [.int (i : Nat), .str ⟨#[c]⟩])) :=
  ⟨fun _ _ h _ => h, fun _ _ => rfl, fun _ _ _ _ _ _ h => h⟩
end Own

namespace Own
open PySem PySem.Spec PyProof.Rows L2
/-! ### dict(zip(s, t)): a zip of any two iterators as a source of pairs -/
section
variable {P : Program} {w : World} {A : Around} {z TI TO T i1 i2 d : Addr} {f1 f2 : List Addr} {n1 n2 i : Nat} {s : Shared}
variable {R1 R2 : Nat → Value → Prop} {S1 S2 : Nat → Heap → Prop}

/-- all outside of some places stays -/
def Rest (l : List Addr) (h h' : Heap) : Prop := ∀ b o, b ∉ l → h.get? b = some o → h'.get? b = some o
theorem Rest.of {h h' : Heap} {x : Addr} (e : Heap.SameBut x h h') : Rest [x] h h' :=
  fun b o hb q => e.extBut b o (fun r => hb (List.mem_singleton.mpr r)) q
theorem Rest.push {h : Heap} {o : Obj} : Rest [] h (h.push o) := fun _ _ _ q => Heap.get?_push_of_some _ q
theorem Rest.seq {l1 l2 : List Addr} {h h1 h2 : Heap} (a : Rest l1 h h1) (b : Rest l2 h1 h2) : Rest (l1 ++ l2) h h2 :=
  fun c o hc q => b c o (fun r => hc (List.mem_append_right _ r)) (a c o (fun r => hc (List.mem_append_left _ r)) q)
theorem Rest.more {l1 l2 : List Addr} {h h' : Heap} (a : Rest l1 h h') (b : ∀ c ∈ l1, c ∈ l2) : Rest l2 h h' :=
  fun c o hc q => a c o (fun r => hc (b c r)) q

end

end Own

namespace Own
open PySem PySem.Spec PyProof.Rows L2
end Own

namespace Own
open PySem PySem.Spec PyProof.Rows L2 SX
/-! ### texts -/
theorem idx_of {c : Nat} : ∀ (a : List Nat) (i : Nat), a[i]? = some c → (∀ k, k < i → a[k]? ≠ some c) → a.idxOf c = i
  | [], i, h, _ => by simp at h
  | x :: r, 0, h, _ => by
    have e : x = c := Option.some.inj h
    rw [e, List.idxOf_cons_self]
  | x :: r, i + 1, h, hk => by
    have ne : x ≠ c := fun e => hk 0 (Nat.succ_pos _) (by rw [e]; rfl)
    have ih := idx_of r i h fun k lt e => hk (k + 1) (Nat.succ_lt_succ lt) e
    have nb : (x == c) = false := beq_eq_false_iff_ne.mpr ne
    rw [List.idxOf_cons, nb, ih]
    rfl
theorem occ1 {a : List Nat} {c : Nat} (h : c ∈ a) :
    ∃ rest, Builtin.Str.occurrences (S a) (S [c]) 0 (S a).length 1 = a.idxOf c :: rest := by
  obtain ⟨j, hj⟩ := List.mem_iff_getElem?.mp h
  rcases StrLaws.occ_head (S a) (S [c]) 1 (Nat.le_refl _) with ⟨_, hn⟩ | ⟨i, r, e, hi, hk⟩
  · exact absurd ((StrLaws.subAt_one (S a) c j).mpr hj) (hn j)
  · have h1 : a[i]? = some c := (StrLaws.subAt_one (S a) c i).mp hi
    have e2 := idx_of a i h1 fun k lt q => hk k lt ((StrLaws.subAt_one (S a) c k).mpr q)
    exact ⟨r, by rw [e, e2]⟩
theorem join1 : ∀ cs : List Nat, TL.joinL [] (cs.map fun c => [c]) = cs
  | [] => rfl
  | [_] => rfl
  | x :: y :: r => by
    show [x] ++ ([] ++ TL.joinL [] ((y :: r).map fun c => [c])) = x :: y :: r
    rw [join1 (y :: r)]
    rfl
theorem empty_S : Str.ofString "" = S [] := rfl
theorem joinC (cs : List Nat) : Txt.join (Str.ofString "") (cs.map fun c => S [c]) = S cs := by
  rw [empty_S]
  have e := join_S [] (cs.map fun c => [c])
  rw [List.map_map, join1] at e
  exact e
theorem joinT (ts : List (List Nat)) : Txt.join (Str.ofString "") (ts.map S) = S ts.flatten := by
  rw [empty_S, join_S]
  congr 2
  induction ts with
  | nil => rfl
  | cons x r ih =>
    cases r with
    | nil => simp [TL.joinL]
    | cons y r =>
      show x ++ ([] ++ TL.joinL [] (y :: r)) = _
      rw [ih]
      rfl
theorem one_len (cs : List Nat) : ((cs.map fun c => S [c]).map (·.length)).sum = cs.length := by
  induction cs with
  | nil => rfl
  | cons c r ih =>
    rw [List.map_cons, List.map_cons, List.sum_cons, ih, List.length_cons, S_len]
    show 1 + r.length = _
    omega
theorem az : Str.ofString "abcdefghijklmnopqrstuvwxyz" = S (List.range' 97 26) := by decide +kernel

/-! ### turns -/
theorem get_idx {gs : List Nat} {c : Nat} (h : c ∈ gs) : gs[gs.idxOf c]? = some c := by
  rw [List.getElem?_eq_getElem (List.idxOf_lt_length_of_mem h), List.getElem_idxOf]
def tau (gs p : List Nat) (c : Nat) : Nat := p.getD (gs.idxOf c) 0
theorem tau_at {gs p : List Nat} {c : Nat} (h : c ∈ gs) (hl : p.length = gs.length) : p[gs.idxOf c]? = some (tau gs p c) := by
  have lt : gs.idxOf c < p.length := by rw [hl]; exact List.idxOf_lt_length_of_mem h
  unfold tau
  rw [List.getD_eq_getElem?_getD, List.getElem?_eq_getElem lt]
  rfl
theorem tau_self {gs : List Nat} {c : Nat} (h : c ∈ gs) : tau gs gs c = c := by
  have e := tau_at h (rfl : gs.length = gs.length)
  have e2 : gs[gs.idxOf c]? = some c := get_idx h
  rw [e] at e2
  exact Option.some.inj e2
theorem tau_map {gs m : List Nat} (f : Nat → Nat) {c : Nat} (h : c ∈ gs) (hl : m.length = gs.length) :
    tau gs (m.map f) c = f (tau gs m c) := by
  have e := tau_at (p := m.map f) h (by rw [List.length_map, hl])
  rw [List.getElem?_map, tau_at h hl] at e
  exact (Option.some.inj e).symm
theorem idx_get {y : List Nat} (nd : y.Nodup) {i c : Nat} (h : y[i]? = some c) : y.idxOf c = i := by
  refine idx_of y i h fun k lt e => ?_
  obtain ⟨h1, e1⟩ := List.getElem?_eq_some_iff.mp h
  obtain ⟨h2, e2⟩ := List.getElem?_eq_some_iff.mp e
  have : k = i := (List.getElem_inj nd).mp (e2.trans e1.symm)
  omega
/-! ### how often -/
def it (gs t : List Nat) : Nat → List Nat
  | 0 => t
  | j + 1 => (it gs t j).map (tau gs t)
def lists (n : Nat) : Nat → List (List Nat)
  | 0 => [[]]
  | k + 1 => (List.range n).flatMap fun a => (lists n k).map fun l => a :: l
/-! ### letters -/
def lets (f s n : Nat) : List Nat := (List.range n).map fun k => 97 + (f + s * k) % 26
theorem lets_nd : ∀ f ∈ List.range 26, ∀ s ∈ [1, 3, 5, 25, 7], ∀ n ∈ [2, 3, 4], (lets f s n).Nodup := by
  decide +kernel
structure Good (gs : List Nat) : Prop where
  lo : 2 ≤ gs.length
  hi : gs.length ≤ 4
  nd : gs.Nodup
  az : ∀ c ∈ gs, 97 ≤ c ∧ c ≤ 122
theorem lets_good {f s n : Nat} (hf : f < 26) (hs : s ∈ [1, 3, 5, 25, 7]) (hn : n ∈ [2, 3, 4]) : Good (lets f s n) := by
  have hl : (lets f s n).length = n := by unfold lets; rw [List.length_map, List.length_range]
  have h2 : 2 ≤ n ∧ n ≤ 4 := by
    simp only [List.mem_cons, List.not_mem_nil, or_false] at hn
    omega
  refine ⟨by omega, by omega, lets_nd f (List.mem_range.mpr hf) s hs n hn, fun c hc => ?_⟩
  obtain ⟨k, _, rfl⟩ := List.mem_map.mp hc
  omega

/-! ### the dict of two texts -/
end Own

namespace Own
open PySem PySem.Spec PyProof.Rows L2 SX RZ
/-! ### the drawer -/
def RngV (H : Hp) (r l : Addr) (ns : List Int) (i b s c : Int) : Prop :=
  0 ≤ i ∧ H r = some (.lst [.ref l, .int i, .int b, .int s, .int c]) ∧ H l = some (.lst (ns.map V.int))
def RngL (H : Hp) (r l : Addr) : Prop := ∃ ns i b s c, RngV H r l ns i b s c
def Rng (H : Hp) (r : Addr) : Prop := ∃ l, RngL H r l
/-- all but r as before, and at r a drawer over the same cells -/
def Go (r : Addr) (H H' : Hp) : Prop :=
  (∀ b o, b ≠ r → H b = some o → H' b = some o) ∧ ∃ l, RngL H r l ∧ RngL H' r l

theorem ints_ne {a : List Int} {l : Addr} {xs : List V} : HO.lst (a.map V.int) ≠ HO.lst (V.ref l :: xs) := by
  intro h
  injection h with h
  cases a with
  | nil => cases h
  | cons x r =>
    injection h with h1 h2
    cases h1
theorem RngV.ne {H : Hp} {r l : Addr} {ns : List Int} {i b s c : Int} (h : RngV H r l ns i b s c) : l ≠ r :=
  ne_of h.2.2 h.2.1 ints_ne
theorem RngV.put {H : Hp} {r l : Addr} {ns : List Int} {i b s c i' b' s' c' : Int}
    (h : RngV H r l ns i b s c) (hi : 0 ≤ i') :
    RngV (upd H r (.lst [.ref l, .int i', .int b', .int s', .int c'])) r l ns i' b' s' c' :=
  ⟨hi, upd_same, by rw [upd_ne h.ne]; exact h.2.2⟩
theorem RngL.inj {r l l' : Addr} {H : Hp} (a : RngL H r l) (b : RngL H r l') : l = l' := by
  obtain ⟨ns, i, b', s, c, R⟩ := a
  obtain ⟨ns', i', b'', s', c', R'⟩ := b
  have e := R.2.1.symm.trans R'.2.1
  injection e with e
  injection e with e
  injection e with e1 e2
  injection e1
theorem RngL.same {r l : Addr} {H H' : Hp} (h : RngL H r l) (s : Same H H') : RngL H' r l := by
  obtain ⟨ns, i, b, z, c, R⟩ := h
  exact ⟨ns, i, b, z, c, R.1, s _ _ R.2.1, s _ _ R.2.2⟩
theorem Rng.same {r : Addr} {H H' : Hp} (h : Rng H r) (s : Same H H') : Rng H' r := let ⟨l, h⟩ := h; ⟨l, h.same s⟩
theorem Go.rng {r : Addr} {H H' : Hp} (g : Go r H H') : Rng H' r := let ⟨l, _, h⟩ := g.2; ⟨l, h⟩
theorem Go.rng0 {r : Addr} {H H' : Hp} (g : Go r H H') : Rng H r := let ⟨l, h, _⟩ := g.2; ⟨l, h⟩
theorem Go.trans {r : Addr} {H H1 H2 : Hp} (a : Go r H H1) (b : Go r H1 H2) : Go r H H2 := by
  obtain ⟨a1, l, a2, a3⟩ := a
  obtain ⟨b1, l', b2, b3⟩ := b
  have e := a3.inj b2
  subst e
  exact ⟨fun x o nx e => b1 x o nx (a1 x o nx e), l, a2, b3⟩
theorem Go.refl {r : Addr} {H : Hp} (h : Rng H r) : Go r H H := let ⟨l, h⟩ := h; ⟨fun _ _ _ e => e, l, h, h⟩
theorem Go.of {r : Addr} {H H' : Hp} (h : Rng H r) (s : Same H H') : Go r H H' :=
  let ⟨l, h⟩ := h; ⟨fun _ _ _ e => s _ _ e, l, h, h.same s⟩
theorem Go.same {r : Addr} {H H1 H2 : Hp} (a : Go r H H1) (s : Same H1 H2) : Go r H H2 := a.trans (Go.of a.rng s)
theorem Go.after {r : Addr} {H H1 H2 : Hp} (h : Rng H r) (s : Same H H1) (a : Go r H1 H2) : Go r H H2 := (Go.of h s).trans a
theorem RngL.ex {r l : Addr} {H : Hp} (h : RngL H r l) : (∃ xs, H r = some (.lst xs)) ∧ ∃ xs, H l = some (.lst xs) := by
  obtain ⟨ns, i, b, s, c, R⟩ := h
  exact ⟨⟨_, R.2.1⟩, ⟨_, R.2.2⟩⟩
theorem Rng.ex {r : Addr} {H : Hp} (h : Rng H r) : ∃ xs, H r = some (.lst xs) := let ⟨_, h⟩ := h; h.ex.1
/-- a list made on the way, new at H, is written -/
theorem Go.put {r D : Addr} {H H' : Hp} {o : HO} (g : Go r H H') (nD : H D = none) : Go r H (upd H' D o) := by
  obtain ⟨g1, l, h, h'⟩ := g
  obtain ⟨⟨x1, e1⟩, ⟨x2, e2⟩⟩ := h.ex
  have n1 : r ≠ D := ne_of_none e1 nD
  have n2 : l ≠ D := ne_of_none e2 nD
  refine ⟨fun b u nb e => ?_, l, h, ?_⟩
  · rw [upd_ne (ne_of_none e nD)]
    exact g1 b u nb e
  · obtain ⟨ns, i, b, z, c, R⟩ := h'
    exact ⟨ns, i, b, z, c, R.1, by rw [upd_ne n1]; exact R.2.1, by rw [upd_ne n2]; exact R.2.2⟩
theorem same_new {H : Hp} {p : Addr} {o : HO} (h : H p = none) : Same H (upd H p o) := fun b x e => by
  rw [upd_ne (ne_of_none e h)]
  exact e
theorem Go.seq {K : PySem.W.Frag} {r a : Addr} {H H' : Hp} {xs : List V} (g : Go r H H') (ne : a ≠ r) (h : SqL K H a xs) : SqL K H' a xs := by
  rcases h with (h | ⟨o, h⟩) | h
  · exact .inl (.inl (g.1 _ _ ne h))
  · exact .inl (.inr ⟨o, g.1 _ _ ne h⟩)
  · exact .inr h
theorem small {n : Nat} (h : n ≤ 1000) : n ≤ sizeLine := Nat.le_of_lt (small1000 h)
/-! ### equal data -/
def Flat : V → Prop
  | .non => True
  | .bl _ => True
  | .int _ => True
  | .str _ => True
  | _ => False
/-- two values that are the same data, less than n deep -/
def Eqd (K : PySem.W.Frag) (H : Hp) : Nat → V → V → Prop
  | 0, _, _ => False
  | n + 1, x, y => (x = y ∧ Flat x) ∨ ∃ a b xs ys, x = .ref a ∧ y = .ref b ∧
      ((SqL K H a xs ∧ SqL K H b ys) ∨ (SqT K H a xs ∧ SqT K H b ys)) ∧ xs.length ≤ 1000 ∧ xs.length = ys.length ∧
      ∀ (i : Nat) u v, xs[i]? = some u → ys[i]? = some v → Eqd K H n u v
theorem same_t {K : PySem.W.Frag} {H H' : Hp} {a : Addr} {xs : List V} (e : Same H H') (h : SqT K H a xs) : SqT K H' a xs := by
  rcases h with (h | ⟨o, h⟩) | h
  · exact .inl (.inl (e _ _ h))
  · exact .inl (.inr ⟨o, e _ _ h⟩)
  · exact .inr h
theorem Eqd.same {K : PySem.W.Frag} {H H' : Hp} (s : Same H H') : ∀ {n : Nat} {x y : V}, Eqd K H n x y → Eqd K H' n x y
  | 0, _, _, h => h.elim
  | n + 1, x, y, h => by
    rcases h with h | ⟨a, b, xs, ys, e1, e2, h, l1, l2, k⟩
    · exact Or.inl h
    · refine Or.inr ⟨a, b, xs, ys, e1, e2, ?_, l1, l2, fun i u v hu hv => (k i u v hu hv).same s⟩
      rcases h with ⟨h1, h2⟩ | ⟨h1, h2⟩
      · exact .inl ⟨s.seq h1, s.seq h2⟩
      · exact .inr ⟨same_t s h1, same_t s h2⟩
theorem Eqd.refl {K : PySem.W.Frag} {H : Hp} {n : Nat} {x : V} (h : Flat x) : Eqd K H (n + 1) x x := Or.inl ⟨rfl, h⟩
/-- two lists of flat things -/
theorem Eqd.lst {K : PySem.W.Frag} {H : Hp} {n : Nat} {a b : Addr} {xs : List V} (h1 : H a = some (.lst xs)) (h2 : H b = some (.lst xs)) (hl : xs.length ≤ 1000) (hf : ∀ x ∈ xs, Flat x) :
    Eqd K H (n + 2) (.ref a) (.ref b) := by
  refine Or.inr ⟨a, b, xs, xs, rfl, rfl, .inl ⟨.inl (.inl h1), .inl (.inl h2)⟩, hl, rfl, fun i u v hu hv => ?_⟩
  have e := Option.some.inj (hu.symm.trans hv)
  subst e
  exact Eqd.refl (hf _ (List.mem_of_getElem? hu))
theorem tyL {K : PySem.W.Frag} {H : Hp} {a : Addr} {xs : List V} (h : SqL K H a xs) : TyX K H (.ref a) (.type "list") := by
  rcases h with (h | ⟨o, h⟩) | ⟨o, its, n, hk, hc, _⟩
  · exact .base (.lst h)
  · exact .base (.frz h)
  · exact .kList hk hc
theorem tyT {K : PySem.W.Frag} {H : Hp} {a : Addr} {xs : List V} (h : SqT K H a xs) : TyX K H (.ref a) (.type "tuple") := by
  rcases h with (h | ⟨o, h⟩) | ⟨o, its, n, hk, hc, _⟩
  · exact .base (.tup h)
  · exact .fTuple h
  · exact .kTuple hk hc
theorem walk_zT {K : PySem.W.Frag} {a b : Addr} {xs ys : List V} {n : Nat} (hn : n = min xs.length ys.length) :
    Walk (ItzT K a b) n (fun H => SqT K H a xs ∧ SqT K H b ys) (YPair (fun i => xs[i]?) (fun i => ys[i]?)) := by
  refine ⟨fun i H hi q => ?_, fun H q => ⟨xs, ys, q.1, q.2, by omega⟩, ?_⟩
  · obtain ⟨lx, ly⟩ := Nat.lt_min.mp (hn ▸ hi)
    exact ⟨xs, ys, _, _, q.1, q.2, List.getElem?_eq_getElem lx, List.getElem?_eq_getElem ly⟩
  · rintro i H v H' _ ⟨qa, qb⟩ ⟨T, x, z, e1, e2, e3, a, b⟩
    exact ⟨T, x, z, e1, e2, e3, a _ qa, b _ qb⟩

theorem kit2 {K : PySem.W.Frag} {t a b : String} {r s : Bool} (h1 : kitB t a = some r) (h2 : kitB t b = some s) :
    PySem.W.kitAny K (.type t) [.type a, .type b] = some (r || s) := by
  refine kitAny_cons (kit_ty h1) (fun e => ?_) (fun e => by rw [e]; rfl)
  subst e
  refine kitAny_cons (kit_ty h2) (fun e => ?_) (fun e => by rw [e]; rfl)
  subst e
  rfl
theorem flat_ty {K : PySem.W.Frag} {x : V} (h : Flat x) : ∃ t, (∀ H, TyX K H x (.type t)) ∧ kitB t "list" = some false ∧ kitB t "tuple" = some false ∧
    (∃ b, kitB t "bool" = some b) ∧ (∃ b, kitB t "int" = some b) ∧ ∃ b, kitB t "str" = some b := by
  cases x with
  | non => exact ⟨"NoneType", fun _ => .base .non, by decide +kernel, by decide +kernel, ⟨false, by decide +kernel⟩, ⟨false, by decide +kernel⟩, ⟨false, by decide +kernel⟩⟩
  | bl b => exact ⟨"bool", fun _ => .base (.bl b), by decide +kernel, by decide +kernel, ⟨true, by decide +kernel⟩, ⟨true, by decide +kernel⟩, ⟨false, by decide +kernel⟩⟩
  | int i => exact ⟨"int", fun _ => .base (.int i), by decide +kernel, by decide +kernel, ⟨false, by decide +kernel⟩, ⟨true, by decide +kernel⟩, ⟨false, by decide +kernel⟩⟩
  | str z => exact ⟨"str", fun _ => .base (.str z), by decide +kernel, by decide +kernel, ⟨false, by decide +kernel⟩, ⟨false, by decide +kernel⟩, ⟨true, by decide +kernel⟩⟩
  | _ => exact h.elim
def spDraws (K : PySem.W.Frag) : Sp := fun vs H Q _ => ∃ (a : Addr) (ns : List Int), vs = [.ref a] ∧
  SqL K H a (ns.map V.int) ∧ ∀ H' r, Same H H' → H r = none → Rng H' r → Q (.ref r) H'
def spDraw : Sp := fun vs H Q _ => ∃ (r : Addr) (n : Int), vs = [.ref r, .int n] ∧ 0 < n ∧ n < 1000000 ∧
  Rng H r ∧ ∀ H' k, Go r H H' → 0 ≤ k → k < n → Q (.int k) H'
def spPick (K : PySem.W.Frag) : Sp := fun vs H Q _ => ∃ (r : Addr) (x : V), vs = [.ref r, x] ∧ Rng H r ∧
  ((∃ a xs, x = .ref a ∧ a ≠ r ∧ SqL K H a xs ∧ 0 < xs.length ∧ xs.length ≤ 1000 ∧ ∀ H' v, Go r H H' → v ∈ xs → Q v H') ∨
   (∃ cs : List Nat, x = .str (S cs) ∧ 0 < cs.length ∧ cs.length ≤ 1000 ∧ ∀ H' c, Go r H H' → c ∈ cs → Q (.str (S [c])) H'))
def spLetters : Sp := fun vs H Q _ => ∃ (r : Addr) (m : Int), vs = [.ref r, .int m] ∧ 2 ≤ m ∧ Rng H r ∧
  ∀ H' gs, Go r H H' → Good gs → (gs.length : Int) ≤ m → Q (.str (S gs)) H'
def spSm (K : PySem.W.Frag) (n : Nat) : Sp := fun vs H Q _ => ∃ x y, vs = [x, y] ∧ Eqd K H n x y ∧ ∀ H', Same H H' → Q (.bl true) H'
structure SameT (mg : Str → Option Value) : Prop where
  isi : mg "isinstance" = none
  list : mg "list" = none
  tuple : mg "tuple" = none
  len : mg "len" = none
  all : mg "all" = none
  zip : mg "zip" = none
  bool : mg "bool" = none
  int : mg "int" = none
  str : mg "str" = none
/-! ### calls in short -/
structure Cl (P : Program) (w : World) (K : PySem.W.Frag) (mg : Str → Option Value) (base : Heap) (x : Str) (k : Nat) (ps : List Str) (sp : Sp) (f : Addr) (fd : FuncData) : Prop where
  ok : FnOk P w K mg base CX0 k f fd ps sp
  gl : mg x = some (.ref f)
  kp : PySem.W.keepIn K (.ref f) = true
  bd : Binds K fd ps []
section
variable {X : Cx} {k j : Nat} {f : Addr} {fd : FuncData} {ps ks : List Str} {sp : Sp} {x : Str} {p pos : Pos} {e : Expr} {es : List Expr} {kws : List Keyword} {t tk : TA}
theorem pe_cl (C : Cl X.prog X.w X.K X.mg X.base x k ps sp f fd) (hr : Room j X.A) (hk : k ≤ j) (hg : Gl X x) (ha : PA X (e :: es) t)
    (hdb : (x == ("__debug__" : Str)) = false := by decide) (he : starEach (e :: es) X.env = (false, eval e X.env) :: starEach es X.env := by rfl)
    (hpl : (backTo pos (starEach es X.env)).any (·.1) = false := by rfl) :
    PE X (.Call (.Name x p) (e :: es) [] pos) (tCall sp [] E0 t) :=
  pe_call C.ok (hr.mono hk) hg C.gl C.kp C.bd .nil pass0 ha hdb he hpl
end
end Own

namespace Own
open PySem PySem.Spec PyProof.Rows L2 SX
/-! ### try: .. except (A, B) as e: .. -/
theorem fly_keep {B h h' : Heap} {l : List Env} {a : Addr} {Z : Obj → Prop} (x : HandSPX.FlyingZ B l a Z h)
    (k : ∀ b o, h.get? b = some o → h'.get? b = some o) : HandSPX.FlyingZ B l a Z h' := by
  obtain ⟨x1, x2, x3, oe, vs, T, oT, ts, e1, e2, e3, e4, e5, e6, e7, e8, e9⟩ := x
  refine ⟨fun b o e => k b o (x1 b o e), x2, x3.of_keeps fun b o e _ => ⟨o, k b o e, rfl⟩, ?_⟩
  exact ⟨oe, vs, T, oT, ts, k _ _ e1, e2, e3, e4, e5, e6, k _ _ e7, e8, e9⟩

def dropN (i : Nat) (D : Ends) : Ends := { nx := fun σ' H' => D.nx (σ'.set i none) H', rt := D.rt, bk := fun σ' H' => D.bk (σ'.set i none) H', ct := fun σ' H' => D.ct (σ'.set i none) H' }
/-- what the clause «except (x1, x2) as n» wishes: the exception is one of them; slot i is n's -/
def wTwo (K : PySem.W.Frag) (c1 c2 : Value) (nn i : Nat) (ts : Addr → Value → Option Addr → TS) (D : Ends) : WX :=
  fun cls d σ H => PySem.W.exmAny K cls [c1, c2] = some true ∧ ∀ a, H a = none → σ.length = nn →
    ts a cls d (dropN i D) (σ.set i (some (.ref a))) H

/-- a caught exception at a as a clause looks at it, over the def's own state -/
structure Seen (X : Cx) (pins : List (Addr × Obj)) (B : Heap) (a : Addr) (cls : Value) (d : Option Addr) (σ : L2.St) (H : Hp) (s : Shared) : Prop where
  inv : Inv X pins σ H s
  fly : HandSPX.FlyingZ B (X.env :: X.outer) a (Zc cls d) s.heap
  free : H a = none
/-- the exception is none of the frames, so the suite may run with it pinned -/
theorem Seen.go {X : Cx} {pins : List (Addr × Obj)} {B : Heap} {a : Addr} {cls : Value} {d : Option Addr} {σ : L2.St} {H : Hp} {s : Shared}
    (g : Seen X pins B a cls d σ H s) (hf : X.env.frame = some X.env.locals) :
    ∃ oe, s.heap.get? a = some oe ∧ Zc cls d oe ∧ (∃ vs, oe.data = .fields vs) ∧ Inv (X.suite a ((a, oe) :: (X.pn ++ pins))) [] σ H s := by
  obtain ⟨oe, vs, e, hz, hd⟩ := g.fly.there
  have apart : ∀ v ∈ X.env :: X.outer, v.frame ≠ some a := fun v hv q => by
    obtain ⟨_, o', e', n⟩ := g.fly.2.2.1.mem (List.mem_filterMap.mpr ⟨v, hv, q⟩)
    cases e.symm.trans e'
    exact n _ hd
  refine ⟨oe, e, hz, ⟨vs, hd⟩, g.inv.suite e hd g.free (fun q => apart _ List.mem_cons_self (by rw [hf, q])) fun hm => ?_⟩
  obtain ⟨v, hv, q⟩ := List.mem_filterMap.mp hm
  exact apart v (List.mem_cons_of_mem _ hv) q

section
variable {X : Cx} {x1 x2 n : Str} {c1 c2 : Value} {i k : Nat} {body suite : List Stmt} {b0 : Stmt}
variable {p1 p2 pt pos pos' : Pos} {tb : WX → TS} {ts : Addr → Value → Option Addr → TS}
/-- (x1, x2) of two classes of the module, while an exception is handled -/
theorem two_classes {a : Addr} {pn : List (Addr × Obj)} {pins : List (Addr × Obj)} {σ : L2.St} {H : Hp} {s : Shared} {Q : Value → Shared → Prop} {E : Value → Shared → Prop}
    (I : Inv (X.suite a pn) pins σ H s) (g1 : Gl X x1) (m1 : X.mg x1 = some c1) (d1 : (x1 == ("__debug__" : Str)) = false)
    (g2 : Gl X x2) (m2 : X.mg x2 = some c2) (d2 : (x2 == ("__debug__" : Str)) = false)
    (q : Q (.ref s.heap.objs.size) { s with heap := s.heap.push { cls := .type "tuple", data := .seq [c1, c2].toArray } }) :
    wpAny (model X.prog X.w) (X.A.mark (some (.ref a))) (eval (.Tuple [.Name x1 p1, .Name x2 p2] k pt) X.env) Q E s :=
  wpAny_Tuple_spliced (Calls.spliced_cons (x := eval (.Name x1 p1) X.env) (rest := backTo pt (starEach [.Name x2 p2] X.env)) (ld_glob (X := X.suite a pn) I g1 m1
    (Calls.spliced_cons (x := eval (.Name x2 p2) X.env) (rest := backTo pt (starEach [] X.env)) (ld_glob (X := X.suite a pn) I g2 m2
      (Calls.spliced_nil ⟨by show 2 ≤ sizeLine; decide, q⟩) d2)) d1))
/-- the suite's end: n is gone, and what was pinned is the def's own again -/
theorem ends_two {a : Addr} {pins : List (Addr × Obj)} {oe : Obj} {D : Ends} {fl : Flow} {s : Shared} {E : Value → Shared → Prop}
    (ok : X.Ok) (hN : X.N.Nodup) (hi : X.N[i]? = some n) (hln : X.env.kindOf n = some .local)
    (h : SP (X.suite a ((a, oe) :: (X.pn ++ pins))) [] (dropN i D) fl s) :
    wpAny (model X.prog X.w) X.A (do bindName X.env n .none; unbindBehindTheSuite X.env n pos') (fun _ s' => SP X pins D fl s') E s := by
  cases fl with
  | ret u =>
    obtain ⟨v, σ', H', S, r, q⟩ := h
    exact gone_ok (S.unsuite ok) hN hi hln fun s' J => ⟨v, _, H', J, r, q⟩
  | _ =>
    obtain ⟨σ', H', S, q⟩ := h
    exact gone_ok (S.unsuite ok) hN hi hln fun s' J => ⟨_, H', J, q⟩
theorem ps_two (hs : X.stack = X.env :: X.outer) (hf : X.env.frame = some X.env.locals) (hN : X.N.Nodup)
    (hi : X.N[i]? = some n) (hln : X.env.kindOf n = some .local)
    (g1 : Gl X x1) (m1 : X.mg x1 = some c1) (d1 : (x1 == ("__debug__" : Str)) = false)
    (g2 : Gl X x2) (m2 : X.mg x2 = some c2) (d2 : (x2 == ("__debug__" : Str)) = false)
    (hb : ∀ (W : WX) (pn : List (Addr × Obj)) (xe : Value → Shared → Prop), Takes (X.tr pn xe) W →
      PassesOwn (model X.prog X.w) X.A X.env xe → PSs (X.tr pn xe) body (tb W))
    (hsu : ∀ (a : Addr) (oe : Obj) (cls : Value) (d : Option Addr) (pn : List (Addr × Obj)), Zc cls d oe →
      (∃ vs, oe.data = .fields vs) → PSs (X.suite a ((a, oe) :: pn)) (b0 :: suite) (ts a cls d)) :
    PS X (.Try body [.ExceptHandler (some (.Tuple [.Name x1 p1, .Name x2 p2] k pt)) (some n) (b0 :: suite) pos'] [] [] pos)
      (fun D σ H => tb (wTwo X.K c1 c2 X.N.length i ts D) D σ H) := by
  constructor
  intro pins s σ H D I h
  have ok := I.ok
  refine wpAny_Try_except (wpAny_mono ((hb (wTwo X.K c1 c2 X.N.length i ts D) (X.pn ++ pins) _ ?_ PassesOwn.looking).run [] s σ H D (I.toTry _) h) ?_ fun _ _ e => e)
  · rintro u s' ⟨a, B, sI, pins', σ', H', cls, d, rfl, J', nb, up, sky, na, os, ag, two, wish⟩
    have J := J'.ofTry (pins := pins) ok
    refine Sky.land Zc.steady (by rw [ok.frames, hs]) hf (by rw [← hs]; exact sky) fun h1 f1 u1 => ?_
    have seen1 : Seen X pins B a cls d σ' H' { s' with heap := h1 } := ⟨J.landed nb f1.1 (up.trans u1) os ag, f1, na⟩
    obtain ⟨o1, e1, z1, _, S1⟩ := seen1.go hf
    -- the tuple of the two classes lies behind all that was there
    have grow : ∀ b o, h1.get? b = some o → (h1.push { cls := .type "tuple", data := .seq [c1, c2].toArray }).get? b = some o :=
      fun _ _ e => Heap.get?_push_of_some _ e
    have there : (h1.push { cls := .type "tuple", data := .seq [c1, c2].toArray }).get? h1.objs.size =
        some { cls := .type "tuple", data := .seq [c1, c2].toArray } := Heap.get?_push_size _ rfl
    refine wpAny_handleBy_cons (codeAny_handlers_test (two_classes S1 g1 m1 d1 g2 m2 d2 ?_)) (fun q => nomatch q)
    refine (PySem.W.exm_tup2 (M := model X.prog X.w) (seen1.inv.kept (t' := s'.toks) grow).kIn
      (fun A Q E s k q => wpAny_typeOf_ref (k _ _ (grow _ _ e1)) (by rw [z1.1]; exact q)) there two).here
        (codeAny_handlers_suite_as (HandSPX.lands_againZ (fly_keep f1 grow) fun h2 f2 u2 => ?_))
    have seen2 : Seen X pins B a cls d σ' H' { s' with heap := h2 } :=
      ⟨J.landed nb f2.1 (((up.trans u1).trans (Heap.UpToSlots.of_keeps grow)).trans u2) os ag, f2, na⟩
    obtain ⟨o2, _, z2, v2, S2⟩ := seen2.go hf
    refine store_ok (X := X.suite a ((a, o2) :: (X.pn ++ pins))) (v := .ref a) S2 hN hi (.inl hln) rfl (fun s3 S3 => ?_) (.inr hln)
    exact wpAny_mono ((hsu a o2 cls d (X.pn ++ pins) z2 v2).run [] s3 _ H' _ S3 (wish a na J.len))
      (fun fl s4 hs4 => ends_two ok hN hi hln hs4) fun _ _ no => no.elim
  · intro fl s1 h1
    cases fl with
    | next => obtain ⟨σ', H', K', q⟩ := h1; exact wpAny_execs_nil ⟨σ', H', K'.ofTry ok, q⟩
    | ret u => obtain ⟨v, σ', H', K', r, q⟩ := h1; exact ⟨v, σ', H', K'.ofTry ok, r, q⟩
    | _ => obtain ⟨σ', H', K', q⟩ := h1; exact ⟨σ', H', K'.ofTry ok, q⟩
end
end Own

namespace Own
open PySem PySem.Spec PyProof.Rows L2 SX
/-- what is known of a caught exception: a its object, cls its class, d its dict -/
def tXg (K : PySem.W.Frag) (a : Addr) (cls : Value) (d : Option Addr) (f : Str) (te : TE) : TE := fun σ H Q => te σ H fun x H1 =>
  x = .ref a ∧ ∃ (C dd : Addr) (fs : List (Str × V)) (v : V), cls = .ref C ∧ XfC K C ∧ PySem.W.findIn K (.ref C) f = some none ∧
    d = some dd ∧ H1 dd = some (.xd fs) ∧ fs.lookup f = some v ∧ Q v H1
theorem pe_xg {X : Cx} {a : Addr} {oe : Obj} {cls : Value} {d : Option Addr} {e : Expr} {te : TE} {pos : Pos} {n : Str}
    (hp : (a, oe) ∈ X.pn) (hz : Zc cls d oe) (hf : ∃ vs, oe.data = .fields vs) (he : PE X e te)
    (hb : attributeBase e n X.env (eval e X.env) = eval e X.env := by rfl) :
    PE X (.Attribute e n pos) (tXg X.K a cls d n te) := by
  constructor
  intro pins s σ H Q I h
  refine attr_of hb (thn (he.run pins s σ H _ I h) ?_)
  rintro u s1 ⟨_, H1, I1, rx, rfl, C, dd, fs, v, rfl, T, none', rfl, lies, look, q⟩
  have eu : u = .ref a := rx
  subst eu
  obtain ⟨vs, hd⟩ := hf
  obtain ⟨m, ns, all⟩ := (show ObjOk X.prog X.w H1 s1.heap dd (.xd fs) from I1.hok dd _ lies)
  obtain ⟨od, od_at, od_look⟩ := lookIn_ns ns
  obtain ⟨u', mu, ru⟩ := RelO.some_of (o := m n) (v := v) (look ▸ all n)
  refine HandSPX.exc_get I1.kIn (C := C) (ox := oe) (od := some od) ?_ T.ga T.gg T.exC (PySem.W.findObj_own T.hdC none' rfl (by rw [od_look, mu])) (handed_of ru) ⟨v, H1, I1.tok _, ru, q⟩
  refine ⟨(I1.pin (a, oe) (List.mem_append_left _ hp)).1, hz.1, ?_, hz.2 ▸ od_at⟩
  rw [PySem.W.notCls, hd]

/-! ### a def called with the caught exception -/
abbrev SpX := Addr → Value → Option Addr → Sp
structure FnP (P : Program) (w : World) (K : PySem.W.Frag) (mg : Str → Option Value) (base : Heap) (k : Nat) (f : Addr) (fd : FuncData) (ps : List Str) (sp : SpX) : Prop where
  len : ∀ a cls d vs H Q E, sp a cls d vs H Q E → vs.length = ps.length
  run : ∀ (A : Around) (outer : List Env) (s : Shared) (H : Hp) (args : Args) (us : List Value) (vs : List V) (Q : VK) (a : Addr) (oe : Obj) (cls : Value) (d : Option Addr),
    L2H.RoomH k A → L2H.PinOk outer H s (a, oe) → Zc cls d oe → (∃ vs, oe.data = .fields vs) → Env0 P w K mg base A outer s H →
    BindsTo s fd args (ps.zip us) → Vals vs us → sp a cls d vs H Q E0 → codeAny (model P w) A (.call (.ref f) args) (CR CX0 outer P w H s Q E0) s

theorem fn_ofP {P : Program} {w : World} {K : PySem.W.Frag} {mg : Str → Option Value} {base : Heap} {k : Nat} {f : Addr} {x qual : Str} {st : Stmt} {fd : FuncData}
    {N ps : List Str} {sp : SpX} (F : Fun K x qual st f fd) (S : FnScope N ps (defScope st)) (len : ∀ a cls d vs H Q E, sp a cls d vs H Q E → vs.length = ps.length)
    (hbody : ∀ (cdv : Value) (A : Around) (outer : List Env) (s : Shared) (H : Hp) (vs : List V) (Q : VK) (a : Addr) (oe : Obj) (cls : Value) (d : Option Addr),
      Zc cls d oe → (∃ vs, oe.data = .fields vs) → L2H.RoomH k (A.deeper (envOfC qual (defScope st) s.heap.objs.size f cdv)) → sp a cls d vs H Q E0 →
      ∃ t, PSs (L2H.cxH CX0 P w K mg base N qual (defScope st) f cdv A outer s H E0 (a, oe)) (defBody st) t ∧ t { nx := fun _ H' => Q .non H', rt := Q } (L2.start N vs) H) :
    FnP P w K mg base (k + 1) f fd ps sp := by
  refine ⟨len, ?_⟩
  intro A outer s H args us vs Q a oe cls d room pin hz hf env bind rel asks
  obtain ⟨_, _, _, _, _, _, cdv, _, _, rfl, at_, code⟩ := F.ex
  have kept : ∀ b o, base.get? b = some o → s.heap.get? b = some o := fun b o e => (env.bs b o e).1
  have frag := env.mod.kin.keeps kept
  refine codeAny_call_function room.depth (frag _ _ at_) rfl S.co S.gen rfl (PySem.W.codeRec_of frag code) (bind _ _ _ _ (wpAny_newFunctionEnv_cells S.kind ?_ ?_))
  · rintro ⟨y, v⟩ hy
    exact (S.par y (List.of_mem_zip hy).1).imp id fun q => ⟨q, PySem.W.cellsFrom_some _ _ _ (.inl q)⟩
  · rintro _ rfl s1 begun
    obtain ⟨t, body, wish⟩ := hbody cdv A outer s H vs Q a oe cls d hz hf (room.deeper _) asks
    have I := L2H.inv_startH (CX := CX0) (E := E0) S pin env (len _ _ _ _ _ _ _ asks) rel begun
    refine ⟨(env.mod.nolimit.keeps kept).keeps begun.toInCall.keep, codeAny_func (wpAny_mono (body.run [] s1 (L2.start N vs) H _ I wish) ?_ fun _ _ no => no)⟩
    intro fl s' out
    rcases fl with _ | u | _ | _
    all_goals first
      | (obtain ⟨_, _, _, no⟩ := out; exact no.elim)
      | (obtain ⟨σ', H', J, q⟩ := out; exact ⟨V.non, H', J.os, J.bare, J.base, J.hok, rfl, q⟩)
      | (obtain ⟨v, σ', H', J, rv, q⟩ := out; exact ⟨v, H', J.os, J.bare, J.base, J.hok, rv, q⟩)

theorem pe_callP {X : Cx} {k : Nat} {f a : Addr} {oe : Obj} {cls : Value} {d : Option Addr} {fd : FuncData} {ps : List Str} {sp : SpX} {x : Str} {p pos : Pos} {e : Expr} {es : List Expr} {t : TA}
    (hp : (a, oe) ∈ X.pn) (hz : Zc cls d oe) (hf : ∃ vs, oe.data = .fields vs)
    (F : FnP X.prog X.w X.K X.mg X.base k f fd ps sp) (hr : L2H.RoomH k X.A) (hg : Gl X x) (hm : X.mg x = some (.ref f)) (hk : PySem.W.keepIn X.K (.ref f) = true) (hb : Binds X.K fd ps [])
    (ha : PA X (e :: es) t) (hdb : (x == ("__debug__" : Str)) = false := by decide)
    (he : starEach (e :: es) X.env = (false, eval e X.env) :: starEach es X.env := by rfl) (hpl : (backTo pos (starEach es X.env)).any (·.1) = false := by rfl) :
    PE X (.Call (.Name x p) (e :: es) [] pos) (fun σ H Q => t σ H fun vs H1 => sp a cls d vs H1 Q E0) := by
  constructor
  intro pins s σ H Q I h
  refine wpAny_Call_Name_kw (ld_glob I hg hm (PySem.W.callWith_K (h₀ := X.base) I.ok.mod.kin hk (thn (ha.run pos pins s σ H _ I h) ?_) he hpl) hdb)
  rintro us s1 ⟨vs, H1, I1, rel, asks⟩
  have bound : BindsTo s1 fd ⟨us, []⟩ (ps.zip us) := by
    have := hb s1 us I1.kIn (by rw [List.append_nil, ← rel.length]; exact F.len _ _ _ _ _ _ _ asks)
    rwa [List.append_nil] at this
  obtain ⟨lies, free, c1, c2, c3⟩ := I1.pin (a, oe) (List.mem_append_left _ hp)
  have pin : L2H.PinOk X.stack H1 s1 (a, oe) := ⟨lies, free, fun m => (List.mem_cons.mp (I1.stkSub _ m)).elim c1 c2, c3⟩
  refine ⟨I1.kIn, wpAny_call (codeAny_mono (F.run X.A X.stack s1 H1 ⟨us, []⟩ us vs Q a oe cls d hr pin hz hf I1.env0 bound rel asks) ?_)⟩
  rintro (er | (_ | u | _ | _)) s' out
  all_goals first | exact I1.after out | exact (show False from out).elim

/-! ### the fields of errors -/
end Own

namespace Own
open PySem PySem.Spec PyProof.Rows L2 SX
/-- C() of an error class with an own __init__ -/
theorem pmk0 {X : Cx} {CX : CXT} {x : Str} {C fI : Addr} {k : Nat} {fd : FuncData} {ps : List Str} {sp : Sp} {p pos : Pos} (T : OexC X.K C)
    (iC : PySem.W.findIn X.K (.ref C) "__init__" = some (some (.ref fI))) (tI : PySem.W.typeIn X.K (.ref fI) = some (.type "function"))
    (F1 : FnOk X.prog X.w X.K X.mg X.base CX k fI fd ps sp) (hr : Room (k + 1) X.A) (hb : Binds X.K fd ps []) (hx : Passes CX X (fun _ _ _ => False))
    (hg : Gl X x) (hm : X.mg x = some (.ref C)) (hdb : (x == ("__debug__" : Str)) = false := by decide) :
    PMk X (.Call (.Name x p) [] [] pos) (tMkO C sp [] tNil) := by
  rintro pins ⟨hp, g, dr, tk, os⟩ σ H Q I ⟨_, asks⟩
  obtain ⟨_, _, _, _, bm, _, _, _, _, _, _, _, _, _, _, cls, refs⟩ := T.cls
  -- the error lies right behind its empty tuple of arguments
  let a : Addr := hp.objs.size + 1
  let h2 := (hp.push (PySem.W.kdv_tup [])).push (PySem.HandSPX.excO C hp.objs.size)
  have young : hp.objs.size ≤ a := Nat.le_add_right _ _
  have wish := asks a (I.hok.fresh young)
  have stays : ∀ b o, hp.get? b = some o → h2.get? b = some o := fun b o e => by
    have e1 : (hp.push (PySem.W.kdv_tup [])).get? b = some o := Heap.get?_push_of_some _ e
    exact Heap.get?_push_of_some _ e1
  have lies : h2.get? a = some (PySem.HandSPX.excO C hp.objs.size) := by
    show ((hp.push (PySem.W.kdv_tup [])).push (PySem.HandSPX.excO C hp.objs.size)).get? (hp.objs.size + 1) = _
    heap_get
  have I2 : Inv X pins σ (upd H a (exo a C none)) ⟨h2, g, dr, tk, os⟩ := I.laid (t' := tk) stays young (exo_ok lies)
  have rel : Vals [V.ref a] [Value.ref a] := .cons rfl .nil
  have init := F1.run _ X.stack ⟨h2, g, dr, tk, os⟩ _ ⟨[.ref a], []⟩ [.ref a] _ _ (fun _ _ _ => False)
    (hr.make C [] []) (I2.env0.make C [] []) (hb _ [.ref a] I2.kIn (F1.len _ _ _ _ wish)) rel wish
  refine wpAny_Call_Name_kw (ld_glob I hg hm (PySem.W.callWith_K0 I.kIn T.kC (wpAny_call
    (PySem.HandSPX.call_own F.excBase_ValueError (fun Y => PySem.HandSPX.refsVE_contains Y bm refs) (I.kIn _ _ cls)
      (PySem.W.looks_findIn I.kIn iC) (fun self => PySem.W.bind_fn I.kIn self tI) (Nat.zero_le _) (codeAny_mono init ?_)))) hdb)
  rintro (er | fl) s' out
  · exact hx pins σ _ _ er s' I2 out
  · cases fl with
    | ret u =>
      obtain ⟨_, H2, o1, o2, o3, o4, rv, rfl, d, fs, ea, ed, hd, q⟩ := out
      exact ⟨rv, mk_end (raises_own T.exC T.tyC) I young stays o3 o4 o1 o2 ea ed hd q⟩
    | _ => exact out.elim

/-- self.code = «code» -/
def spI0 (K : PySem.W.Frag) (C : Addr) (code : Str) : Sp := fun vs H Q _ => ∃ a, vs = [.ref a] ∧ H a = some (exo a C none) ∧
  ∀ dx, H dx = none → dx ≠ a → Q .non (upd (upd H dx (exd dx [("code", .str code)])) a (exo a C (some dx)))
/-- what is left behind a raise -/
theorem after0 {H1 : Hp} {a dx C : Addr} {fs : List (Str × V)} {o : HO} (na : H1 a = none) (nd : (upd H1 a o) dx = none) (ne : dx ≠ a) :
    H1 dx = none ∧ Same H1 (upd (del (upd (upd (upd H1 a o) dx (exd dx fs)) a (exo a C (some dx))) a) dx (.xd fs)) := by
  have n1 : H1 dx = none := by rw [upd_ne ne] at nd; exact nd
  refine ⟨n1, fun b u e => ?_⟩
  have b1 : b ≠ a := ne_of_none e na
  have b2 : b ≠ dx := ne_of_none e n1
  rw [upd_ne b2, del_ne b1, upd_ne b1, upd_ne b2, upd_ne b1]
  exact e
theorem after1 {H1 : Hp} {a dx C : Addr} {fs gs : List (Str × V)} {o : HO} (na : H1 a = none) (nd : (upd H1 a o) dx = none) (ne : dx ≠ a) :
    H1 dx = none ∧ Same H1 (upd (del (upd (upd (upd (upd H1 a o) dx (exd dx gs)) a (exo a C (some dx))) dx (exd dx fs)) a) dx (.xd fs)) := by
  have n1 : H1 dx = none := by rw [upd_ne ne] at nd; exact nd
  refine ⟨n1, fun b u e => ?_⟩
  have b1 : b ≠ a := ne_of_none e na
  have b2 : b ≠ dx := ne_of_none e n1
  rw [upd_ne b2, del_ne b1, upd_ne b2, upd_ne b1, upd_ne b2, upd_ne b1]
  exact e
/-- the facts of an error class -/
structure ErrC (K : PySem.W.Frag) (mg : Str → Option Value) (x : Str) (C : Addr) : Prop where
  ox : OexC K C
  gl : mg x = some (.ref C)
  nc : PySem.W.findIn K (.ref C) "code" = some none
  np : PySem.W.findIn K (.ref C) "position" = some none
  xf : XfC K C

/-! ### _law_try -/
/-- valid letters -/
structure Valid (cs : List Nat) : Prop where
  lo : 2 ≤ cs.length
  hi : cs.length ≤ 4
  az : ∀ c ∈ cs, 97 ≤ c ∧ c ≤ 122
  nd : cs.Nodup
def spCL (C : Addr) : Sp := fun vs H Q E => ∃ cs, vs = [.str (S cs)] ∧ cs.length ≤ 1000 ∧ (Valid cs → ∀ H', Same H H' → Q .non H') ∧
  (¬ Valid cs → ∀ H' d, Same H H' → H' d = some (.xd [("code", .str "InvalidLetters")]) → E (.ref C) (some d) H')
end Own

namespace Own
open PySem PySem.Spec PyProof.Rows L2 SX
/-! ### tables of code objects, and the drawer -/
theorem tabs_same {T : List (Addr × Str)} {H H' : Hp} (t : LamX.Tabs T H) (s : Same H H') : LamX.Tabs T H' := t.ext s
theorem tabs_go {T : List (Addr × Str)} {r : Addr} {H H' : Hp} (t : LamX.Tabs T H) (g : Go r H H') : LamX.Tabs T H' := by
  intro p hp
  obtain ⟨ps, h1, h2, h3⟩ := t p hp
  obtain ⟨xs, er⟩ := g.rng0.ex
  refine ⟨ps, g.1 _ _ (ne_of h1 er fun e => by cases e) h1, h2, fun pos cv hc => ?_⟩
  obtain ⟨c, e1, e2⟩ := h3 pos cv hc
  exact ⟨c, e1, g.1 _ _ (ne_of e2 er fun e => by unfold LamX.CodeO at e; cases e) e2⟩
theorem rng_extN {r : Addr} {H H' : Hp} (R : Rng H r) (e : LamX.ExtN H H') : Rng H' r := by
  obtain ⟨l, ns, i, b, z, c, R⟩ := R
  exact ⟨l, ns, i, b, z, c, R.1, e _ _ R.2.1 (fun ps h => by cases h), e _ _ R.2.2 (fun ps h => by cases h)⟩
/-- all but the tables and the drawer at r stay; there is a drawer -/
structure Keep (T : List (Addr × Str)) (r : Addr) (H : Hp) : Prop where
  rng : Rng H r
  tab : LamX.Tabs T H
theorem Keep.same {T : List (Addr × Str)} {r : Addr} {H H' : Hp} (k : Keep T r H) (s : Same H H') : Keep T r H' := ⟨k.rng.same s, tabs_same k.tab s⟩
theorem Keep.go {T : List (Addr × Str)} {r : Addr} {H H' : Hp} (k : Keep T r H) (g : Go r H H') : Keep T r H' := ⟨g.rng, tabs_go k.tab g⟩
theorem Keep.ext {T : List (Addr × Str)} {r : Addr} {H H' : Hp} (k : Keep T r H) (e : LamX.ExtN H H') (t : LamX.Tabs T H') : Keep T r H' := ⟨rng_extN k.rng e, t⟩
theorem Keep.new {T : List (Addr × Str)} {r p : Addr} {H : Hp} {o : HO} (k : Keep T r H) (n : H p = none) : Keep T r (upd H p o) := k.same (same_new n)
/-! ### two calls tried -/
section
variable {K : PySem.W.Frag} {mg : Str → Option Value} {T : List (Addr × Str)} {CF CM C : Addr} {H : Hp} {σ : L2.St} {Q : VK} {x : Str} {ta : TA}
/-- the first sign of xs that is none of gs -/
def Bad (gs xs : List Nat) (i : Nat) : Prop := ∃ c : Nat, xs[i]? = some c ∧ c ∉ gs ∧ ∀ (j c' : Nat), j < i → xs[j]? = some c' → c' ∈ gs
theorem Bad.one {gs xs : List Nat} {i j : Nat} (a : Bad gs xs i) (b : Bad gs xs j) : i = j := by
  obtain ⟨c, h1, h2, h3⟩ := a
  obtain ⟨d, k1, k2, k3⟩ := b
  rcases Nat.lt_trichotomy i j with h | h | h
  · exact absurd (k3 i c h h1) h2
  · exact h
  · exact absurd (h3 j d h k1) k2
end
/-! ### signs that stand twice, signs that are none of the letters -/
/-! ### lists of ints compared with nothing -/
/-- two tuples of flat things -/
theorem Eqd.tup {K : PySem.W.Frag} {H : Hp} {n : Nat} {a b : Addr} {xs : List V} (h1 : H a = some (.tup xs)) (h2 : H b = some (.tup xs)) (hl : xs.length ≤ 1000) (hf : ∀ x ∈ xs, Flat x) :
    Eqd K H (n + 2) (.ref a) (.ref b) := by
  refine Or.inr ⟨a, b, xs, xs, rfl, rfl, .inr ⟨.inl (.inl h1), .inl (.inl h2)⟩, hl, rfl, fun i u v hu hv => ?_⟩
  have e := Option.some.inj (hu.symm.trans hv)
  subst e
  exact Eqd.refl (hf _ (List.mem_of_getElem? hu))
/-! ### readings with one end -/
/-- what is due of a text to be checked -/
def Alt (gs xs : List Nat) (code : Str) (v : V) : Prop :=
  (∀ c ∈ xs, c ∈ gs) ∧ code = Str.ofString "value" ∧ v = .non ∨ ∃ i : Nat, Bad gs xs i ∧ code = Str.ofString "UnknownLetter" ∧ v = .int (i : Nat)
theorem Alt.one {gs xs : List Nat} {z z' : Str} {v v' : V} (a : Alt gs xs z v) (b : Alt gs xs z' v') : z = z' ∧ v = v' := by
  rcases a with ⟨h, rfl, rfl⟩ | ⟨i, B, rfl, rfl⟩ <;> rcases b with ⟨h', rfl, rfl⟩ | ⟨j, B', rfl, rfl⟩
  · exact ⟨rfl, rfl⟩
  · obtain ⟨c, h1, h2, _⟩ := B'
    exact absurd (h c (List.mem_of_getElem? h1)) h2
  · obtain ⟨c, h1, h2, _⟩ := B
    exact absurd (h' c (List.mem_of_getElem? h1)) h2
  · rw [B.one B']
    exact ⟨rfl, rfl⟩
theorem Alt.flat {gs xs : List Nat} {z : Str} {v : V} (a : Alt gs xs z v) : Flat v := by
  rcases a with ⟨h, rfl, rfl⟩ | ⟨i, B, rfl, rfl⟩ <;> trivial
end Own

namespace Own
open PySem PySem.Spec PyProof.Rows L2 SX
/-! ### three texts zipped -/
def n3 (x y z : Str) : Nat := min (min x.cps.size y.cps.size) z.cps.size
end Own

namespace Own
open PySem PySem.Spec PyProof.Rows L2 SX
/-! ### what turns make -/
inductive InC (gs : List Nat) (ts : List (List Nat)) : List Nat → Prop
  | one : InC gs ts gs
  | step {x t : List Nat} : InC gs ts x → t ∈ ts → InC gs ts (x.map (tau gs t))
theorem map_tau {gs t : List Nat} (nd : gs.Nodup) (hl : t.length = gs.length) : gs.map (tau gs t) = t := by
  refine List.ext_getElem? fun i => ?_
  rw [List.getElem?_map]
  by_cases h : i < gs.length
  · have h2 : i < t.length := by omega
    rw [List.getElem?_eq_getElem h, List.getElem?_eq_getElem h2]
    show some (t.getD (gs.idxOf gs[i]) 0) = some t[i]
    rw [idx_get nd (List.getElem?_eq_getElem h), List.getD_eq_getElem?_getD, List.getElem?_eq_getElem h2]
    rfl
  · rw [List.getElem?_eq_none (by omega), List.getElem?_eq_none (by omega)]
    rfl
theorem mul_perm {gs x t : List Nat} (nd : gs.Nodup) (hx : x.Perm gs) (ht : t.Perm gs) : (x.map (tau gs t)).Perm gs := by
  refine (hx.map _).trans ?_
  rw [map_tau nd ht.length_eq]
  exact ht
theorem InC.perm {gs : List Nat} {ts : List (List Nat)} (nd : gs.Nodup) (hts : ∀ t ∈ ts, t.Perm gs) {x : List Nat} (h : InC gs ts x) : x.Perm gs := by
  induction h with
  | one => exact List.Perm.refl _
  | step _ ht ih => exact mul_perm nd ih (hts _ ht)
theorem InC.mul {gs : List Nat} {ts : List (List Nat)} (nd : gs.Nodup) (hts : ∀ t ∈ ts, t.Perm gs) {x y : List Nat} (hx : InC gs ts x) (hy : InC gs ts y) :
    InC gs ts (x.map (tau gs y)) := by
  have px := hx.perm nd hts
  induction hy with
  | one =>
    have e : x.map (tau gs gs) = x := (List.map_congr_left fun c hc => tau_self (px.mem_iff.mp hc)).trans (List.map_id x)
    rw [e]
    exact hx
  | step hy' ht ih =>
    rename_i y' t
    have py := hy'.perm nd hts
    have e : x.map (tau gs (y'.map (tau gs t))) = (x.map (tau gs y')).map (tau gs t) := by
      rw [List.map_map]
      exact List.map_congr_left fun c hc => tau_map _ (px.mem_iff.mp hc) py.length_eq
    rw [e]
    exact InC.step ih ht
theorem InC.it {gs : List Nat} {ts : List (List Nat)} (nd : gs.Nodup) (hts : ∀ t ∈ ts, t.Perm gs) {x : List Nat} (hx : InC gs ts x) : ∀ j, InC gs ts (it gs x j)
  | 0 => hx
  | j + 1 => (InC.it nd hts hx j).mul nd hts hx
theorem few : ∀ n ∈ List.range 5, ((lists n n).filter fun p => decide p.Nodup).length ≤ 24 := by decide +kernel
def Closed (gs : List Nat) (ts fs : List (List Nat)) : Prop := ∀ x ∈ fs, ∀ t ∈ ts, x.map (tau gs t) ∈ fs
theorem InC.sub {gs : List Nat} {ts fs : List (List Nat)} (h0 : gs ∈ fs) (hc : Closed gs ts fs) {x : List Nat} (h : InC gs ts x) : x ∈ fs := by
  induction h with
  | one => exact h0
  | step _ ht ih => exact hc _ ih _ ht

/-! ### sorted -/
theorem rising_pw : ∀ (l : List (List Nat)) (p : List Nat), risingS (S p) (l.map S) = true → (p :: l).Pairwise (fun a b => ¬ b < a)
  | [], p, _ => List.pairwise_singleton ..
  | x :: r, p, h => by
    have h' : (!ltCps x p && risingS (S x) (r.map S)) = true := h
    rw [Bool.and_eq_true, Bool.not_eq_true', ltCps_eq, decide_eq_false_iff_not] at h'
    have ih := rising_pw r x h'.2
    refine List.pairwise_cons.mpr ⟨fun y hy => ?_, ih⟩
    rcases List.mem_cons.mp hy with e | hy
    · rw [e]; exact h'.1
    · have h2 : ¬ y < x := (List.pairwise_cons.mp ih).1 y hy
      exact fun lt => absurd (List.le_trans (List.not_lt.mp h'.1) (List.not_lt.mp h2)) (List.not_le.mpr lt)
theorem sorted_pw : ∀ (l : List (List Nat)), sortedS (l.map S) = true → l.Pairwise (fun a b => ¬ b < a)
  | [], _ => List.Pairwise.nil
  | x :: r, h => rising_pw r x h
theorem sorted_one : ∀ (l m : List (List Nat)), l.Pairwise (fun a b => ¬ b < a) → m.Pairwise (fun a b => ¬ b < a) → l.Nodup → m.Nodup → (∀ x, x ∈ l ↔ x ∈ m) → l = m
  | [], [], _, _, _, _, _ => rfl
  | [], y :: s, _, _, _, _, h => by have := (h y).mpr (List.mem_cons_self ..); simp at this
  | x :: r, [], _, _, _, _, h => by have := (h x).mp (List.mem_cons_self ..); simp at this
  | x :: r, y :: s, p1, p2, n1, n2, h => by
    have q1 := List.pairwise_cons.mp p1
    have q2 := List.pairwise_cons.mp p2
    have m1 := List.nodup_cons.mp n1
    have m2 := List.nodup_cons.mp n2
    have e : x = y := by
      have hx := (h x).mp (List.mem_cons_self ..)
      have hy := (h y).mpr (List.mem_cons_self ..)
      rcases List.mem_cons.mp hx with e | hx
      · exact e
      · rcases List.mem_cons.mp hy with e | hy
        · exact e.symm
        · exact List.le_antisymm (List.not_lt.mp (q1.1 y hy)) (List.not_lt.mp (q2.1 x hx))
    subst e
    have ih := sorted_one r s q1.2 q2.2 m1.2 m2.2 fun z => by
      constructor
      · intro hz
        rcases List.mem_cons.mp ((h z).mp (List.mem_cons_of_mem _ hz)) with e | e
        · rw [e] at hz; exact absurd hz m1.1
        · exact e
      · intro hz
        rcases List.mem_cons.mp ((h z).mpr (List.mem_cons_of_mem _ hz)) with e | e
        · rw [e] at hz; exact absurd hz m2.1
        · exact e
    rw [ih]
/-- the sorted list of what is made -/
structure Clo (gs : List Nat) (ts cs : List (List Nat)) : Prop where
  nd : cs.Nodup
  mem : ∀ x, x ∈ cs ↔ InC gs ts x
  srt : sortedS (cs.map S) = true
theorem Clo.one {gs : List Nat} {ts cs ds : List (List Nat)} (a : Clo gs ts cs) (b : Clo gs ts ds) : cs = ds :=
  sorted_one cs ds (sorted_pw cs a.srt) (sorted_pw ds b.srt) a.nd b.nd fun x => (a.mem x).trans (b.mem x).symm
/-- a sorted list of texts that is a rearrangement -/
theorem Clo.of {gs : List Nat} {ts fs : List (List Nat)} {ys : List Str} (nd : fs.Nodup) (h0 : gs ∈ fs) (hc : Closed gs ts fs) (hi : ∀ x ∈ fs, InC gs ts x)
    (hp : ys.Perm (fs.map S)) (hs : sortedS ys = true) : ∃ cs, ys = cs.map S ∧ Clo gs ts cs := by
  have e : (ys.map fun y => y.cps.toList).map S = ys := by
    rw [List.map_map]
    exact (List.map_congr_left fun y _ => S_tl y).trans (List.map_id ys)
  have hp2 : (ys.map fun y => y.cps.toList).Perm fs := by
    have h := hp.map fun y => y.cps.toList
    rw [List.map_map] at h
    have e2 : fs.map ((fun y : Str => y.cps.toList) ∘ S) = fs := (List.map_congr_left fun _ _ => rfl).trans (List.map_id fs)
    rw [e2] at h
    exact h
  refine ⟨_, e.symm, hp2.nodup_iff.mpr nd, fun x => ⟨fun h => hi x (hp2.mem_iff.mp h), fun h => hp2.mem_iff.mpr (h.sub h0 hc)⟩, ?_⟩
  rw [e]
  exact hs
end Own

namespace Own
open PySem PySem.Spec PyProof.Rows L2 SX
/-! ### sorted(text) -/
theorem strs_of {xs : List Str} : ∀ {us : List Value}, us.length = xs.length → (∀ (j : Nat) (v : Value), us[j]? = some v → ∃ y t, xs[j]? = some y ∧ v = .str y t) → StrsAre us xs := by
  induction xs with
  | nil =>
    intro us hl _
    cases us with
    | nil => exact .nil
    | cons _ _ => cases hl
  | cons x r ih =>
    intro us hl h
    cases us with
    | nil => cases hl
    | cons u us =>
      obtain ⟨y, t, e1, rfl⟩ := h 0 u rfl
      cases e1
      exact .cons _ _ (ih (Nat.succ.inj hl) fun j v e => h (j + 1) v e)
section
variable {X : Cx}
theorem call_sortedTx (hcalm : X.calm = true) : CallR X (.builtin "sorted") (fun xs H Q => ∃ (z : Str), xs = [.str z] ∧ z.cps.size < 64 ∧
    ∀ ys p, ys.Perm (z.cps.toList.map fun c => (⟨#[c]⟩ : Str)) → sortedS ys = true → H p = none → Q (.ref p) (upd H p (.lst (ys.map V.str)))) := by
  rintro pins s σ H _ us Q I r ⟨z, rfl, few, q⟩
  obtain ⟨_, rfl, t, rfl⟩ := vals1 r
  have line : z.cps.size ≤ sizeLine := Nat.le_trans (Nat.le_of_lt few) (by rw [sizeLine_eq]; decide)
  have body := Calls.call_function_entry (prog := X.prog) (w := X.w) (A := X.A) (E := X.xe) (s := s) (Q := EP X pins σ Q) kind_sorted plain_sorted entry_sorted (args_sorted1 (.str z t))
  refine body ?_
  rw [Builtin.«sorted»]
  refine wpAny_bind (m := checkCount "sorted" 1 1 _) (wpAny_pure (wpAny_bind (wpAny_collect_str (A := X.A.in1) (I.ok.hd hcalm) z t ?_ line)))
  rintro ⟨g, gens, drawn, tk, os⟩ acc keep (rfl : gens = s.gens) (rfl : drawn = s.drawn) (rfl : os = s.os) ⟨size, signs⟩
  -- the signs, one by one, in a list of their own
  have many : acc.toList.length = z.cps.size := by simpa using size
  have tx1 : StrsAre acc.toList (z.cps.toList.map fun c => (⟨#[c]⟩ : Str)) := by
    refine strs_of (by simpa using size) fun j v e => ?_
    obtain ⟨c, u, at_, rfl⟩ := signs j v (by simpa using e)
    exact ⟨_, u, by simp [at_], rfl⟩
  have made : (g.push (seqObj "list" acc.toList.toArray 0)).get? g.objs.size = some (seqObj "list" acc.toList.toArray 0) := Heap.get?_push_size _ rfl
  refine wpAny_bind (wpAny_newList (wpAny_bind (wpAny_holding (wpAny_call_entry slot_list_sort ⟨_, made, rfl⟩ entry_list_sort (list_sort_treeK strKind_oneLt
    (s := { s with heap := g.push (seqObj "list" acc.toList.toArray 0), toks := tk }) made tx1.keysOf (fun _ _ _ e => keyKind_strs (e ▸ tx1)) (many ▸ few) ?_) (args_list_sort _)))) (many ▸ line))
  intro st perm srt
  refine ⟨_, rfl, ?_⟩
  obtain ⟨ys, out, same, inOrder⟩ := sorted_out_str tx1 perm srt
  obtain ⟨n, lies⟩ := sortedHeap_at (vs := acc.toList) (out := (arrOf st).map (·.2)) made
  have I1 : Inv X pins σ H { s with heap := g, toks := tk } := I.kept keep
  refine wpAny_pure ⟨_, rfl, .ref g.objs.size, upd H g.objs.size (.lst (ys.map V.str)), I1.laid (t' := tk) (fun b o e => ?_) (Nat.le_refl _) ?_, rfl, q ys _ same inOrder (I1.hok.fresh (Nat.le_refl _))⟩
  · have lt := Heap.lt_size e
    exact (sortedHeap_old (Nat.ne_of_lt lt) (by rw [size_push']; exact Nat.lt_add_right 1 lt)).trans (Heap.get?_push_of_some _ e)
  · have short : (ys.map V.str).length ≤ sizeLine := by simpa [same.length_eq] using line
    exact (show ObjOk X.prog X.w _ _ _ (.lst (ys.map V.str)) from ⟨short, _, n, vals_of_strs out, lies.trans (by rw [Array.toArray_toList])⟩)
end
/-! ### count of one sign -/
theorem cnt_run (a : List Nat) (c lim : Nat) : ∀ (n lo : Nat) (st : Array Nat × Nat), lo + n = a.length + 1 → st.2 ≤ lo → st.1.size + n ≤ lim →
    (forIn (List.range' lo n) st (StrLaws.occBody (S a) (S [c]) a.length lim)).run.fst.size = st.1.size + (a.drop lo).count c := by
  intro n
  induction n with
  | zero =>
    intro lo st h1 _ _
    rw [List.drop_eq_nil_of_le (by omega)]
    rfl
  | succ n ih =>
    intro lo st h1 h2 h3
    rw [List.range'_succ, List.forIn_cons]
    unfold StrLaws.occBody
    by_cases hc : a[lo]? = some c
    · have hsub := (StrLaws.subAt_one (S a) c lo).mpr hc
      have hlt : lo < a.length := (List.getElem?_eq_some_iff.mp hc).1
      have e : a.drop lo = c :: a.drop (lo + 1) := by
        rw [List.drop_eq_getElem_cons hlt]
        rw [(List.getElem?_eq_some_iff.mp hc).2]
      rw [if_pos ⟨⟨⟨by omega, h2⟩, hsub.1⟩, hsub.2⟩]
      have := ih (lo + 1) (st.1.push lo, lo + 1) (by omega) (Nat.le_refl _) (by simp only [Array.size_push]; omega)
      refine this.trans ?_
      rw [e, List.count_cons_self, Array.size_push]
      omega
    · rw [if_neg fun h => hc ((StrLaws.subAt_one (S a) c lo).mp ⟨h.1.2, h.2⟩)]
      have := ih (lo + 1) (st.1, st.2) (by omega) (by show st.2 ≤ _; omega) (by show st.1.size + _ ≤ _; omega)
      refine this.trans ?_
      by_cases hlt : lo < a.length
      · have e : a.drop lo = a[lo] :: a.drop (lo + 1) := List.drop_eq_getElem_cons hlt
        rw [e, List.count_cons_of_ne (fun e => hc (by rw [List.getElem?_eq_getElem hlt, e]))]
      · rw [List.drop_eq_nil_of_le (by omega), List.drop_eq_nil_of_le (by omega)]
theorem count_S (a : List Nat) (c : Nat) : Txt.count (S a) (S [c]) = ((a.count c : Nat) : Int) := by
  unfold Txt.count
  rw [StrLaws.occ_eq, Array.length_toList]
  have := cnt_run a c (a.length + 1) (a.length + 1) 0 (#[], 0) (by omega) (Nat.le_refl _) (by show 0 + _ ≤ _; omega)
  rw [S_len]
  show (((forIn (List.range' 0 (a.length + 1)) (#[], 0) (StrLaws.occBody (S a) (S [c]) a.length (a.length + 1))).run.fst.size : Nat) : Int) = _
  rw [this]
  show ((0 + (a.drop 0).count c : Nat) : Int) = _
  rw [Nat.zero_add, List.drop_zero]
/-! ### sorted signs -/
theorem signs_of {zs : List Nat} {ys : List Str} (hp : ys.Perm (zs.map fun c => (⟨#[c]⟩ : Str))) : ∃ ls : List (List Nat), ys = ls.map S ∧ ls.Perm (zs.map fun c => [c]) := by
  refine ⟨ys.map fun y => y.cps.toList, ?_, ?_⟩
  · rw [List.map_map]
    refine ((List.map_congr_left fun y hy => ?_).trans (List.map_id ys)).symm
    obtain ⟨c, _, rfl⟩ := List.mem_map.mp (hp.mem_iff.mp hy)
    rfl
  · have := hp.map fun y => y.cps.toList
    rw [List.map_map] at this
    exact this
theorem signs_eq {zs ws : List Nat} {ls ms : List (List Nat)} (h1 : ls.Perm (zs.map fun c => [c])) (h2 : ms.Perm (ws.map fun c => [c])) (s1 : sortedS (ls.map S) = true) (s2 : sortedS (ms.map S) = true) :
    decide (ls = ms) = decide (zs.Perm ws) := by
  rw [decide_eq_decide]
  constructor
  · intro e
    subst e
    have := (h1.symm.trans h2).map fun l => l.headD 0
    simp only [List.map_map] at this
    have e1 : zs.map ((fun l : List Nat => l.headD 0) ∘ fun c => [c]) = zs := (List.map_congr_left fun _ _ => rfl).trans (List.map_id zs)
    have e2 : ws.map ((fun l : List Nat => l.headD 0) ∘ fun c => [c]) = ws := (List.map_congr_left fun _ _ => rfl).trans (List.map_id ws)
    rw [e1, e2] at this
    exact this
  · intro p
    refine List.Perm.eq_of_pairwise (le := fun a b => ¬ b < a) (fun a b _ _ h1 h2 => ?_) (sorted_pw _ s1) (sorted_pw _ s2) ((h1.trans (p.map _)).trans h2.symm)
    exact List.le_antisymm (List.not_lt.mp h1) (List.not_lt.mp h2)
theorem eqvAll_tx : ∀ ls ms : List (List Nat), PyData.eqvAll (ls.map fun c => PyData.str (S c)) (ms.map fun c => PyData.str (S c)) = decide (ls = ms)
  | [], [] => rfl
  | [], _ :: _ => by rw [decide_eq_false (fun e => by cases e)]; rfl
  | _ :: _, [] => by rw [decide_eq_false (fun e => by cases e)]; rfl
  | a :: r, b :: s => by
    show (PyData.eqv (.str (S a)) (.str (S b)) && PyData.eqvAll (r.map fun c => PyData.str (S c)) (s.map fun c => PyData.str (S c))) = _
    rw [eqvAll_tx r s]
    have e : PyData.eqv (.str (S a)) (.str (S b)) = decide (a = b) := by
      show (S a == S b) = _
      rw [Bool.eq_iff_iff, beq_iff_eq, decide_eq_true_iff]
      exact ⟨fun h => S_inj h, fun h => by rw [h]⟩
    rw [e, Bool.eq_iff_iff, Bool.and_eq_true, decide_eq_true_iff, decide_eq_true_iff, decide_eq_true_iff, List.cons.injEq]
/-! ### lists of texts as data -/
theorem lay_tx : ∀ (cs : List (List Nat)), (∀ c ∈ cs, ∀ k ∈ c, k < 128) → PyData.canLayAll0 (cs.map fun c => PyData.str (S c)) = true
  | [], _ => rfl
  | c :: r, h => by
    show (PyData.canLay0 (.str (S c)) && PyData.canLayAll0 (r.map fun c => PyData.str (S c))) = true
    rw [lay_tx r fun x hx => h x (List.mem_cons_of_mem _ hx), Bool.and_true]
    have h1 := h c (List.mem_cons_self ..)
    show ((c.toArray).all (fun k => decide (k < 1114112))) = true
    rw [List.all_toArray, List.all_eq_true]
    intro k hk
    have := h1 k hk
    exact decide_eq_true (by omega)
theorem dep_tx : ∀ (cs : List (List Nat)), PyData.depthAll (cs.map fun c => PyData.str (S c)) = 0
  | [] => rfl
  | c :: r => by
    show max (PyData.depth (.str (S c))) (PyData.depthAll (r.map fun c => PyData.str (S c))) = 0
    rw [dep_tx r]
    rfl
theorem shp_tx {cs : List (List Nat)} (h : ∀ c ∈ cs, ∀ k ∈ c, k < 128) : SeqAt.shaped (.list (cs.map fun c => PyData.str (S c))) = true := by
  unfold SeqAt.shaped
  have e : (PyData.list (cs.map fun c => PyData.str (S c))).depth = 1 := by
    show PyData.depthAll (cs.map fun c => PyData.str (S c)) + 1 = 1
    rw [dep_tx]
  rw [e]
  show (PyData.canLayAll0 (cs.map fun c => PyData.str (S c)) && decide (1 ≤ 64)) = true
  rw [lay_tx cs h]
  rfl
theorem dp_all {K : PySem.W.Frag} {H : Hp} : ∀ cs : List (List Nat), DpAll K H ((cs.map S).map V.str) (cs.map fun c => PyData.str (S c))
  | [] => .nil
  | c :: r => .cons (.str _) (dp_all r)
theorem small_of {zs : List Nat} {ls : List (List Nat)} (hp : ls.Perm (zs.map fun c => [c])) (h : ∀ c ∈ zs, c < 128) : ∀ c ∈ ls, ∀ k ∈ c, k < 128 := by
  intro c hc k hk
  obtain ⟨x, hx, rfl⟩ := List.mem_map.mp (hp.mem_iff.mp hc)
  rw [List.mem_singleton.mp hk]
  exact h x hx
theorem same_put {H H' : Hp} {p : Addr} {o : HO} (s : Same H H') (h : H p = none) : Same H (upd H' p o) := fun b u e => by
  rw [upd_ne (ne_of_none e h)]
  exact s _ _ e
/-! ### the promises -/
def spIs : Sp := fun vs H Q _ => ∃ gs t : List Nat, vs = [.str (S gs), .str (S t)] ∧ gs.length < 64 ∧ t.length < 64 ∧ (∀ c ∈ gs, c < 128) ∧ (∀ c ∈ t, c < 128) ∧
  ∀ H', Same H H' → Q (.bl (decide (t.Perm gs))) H'
section
variable {K : PySem.W.Frag} {mg : Str → Option Value} {T : List (Addr × Str)} {CF CM C : Addr} {H : Hp} {σ : L2.St} {Q : VK} {x : Str} {ta : TA}
end
end Own

namespace Own
open PySem PySem.Spec PyProof.Rows L2 SX
/-! ### a list or a tuple walked -/
def SqA (K : PySem.W.Frag) (H : Hp) (a : Addr) (xs : List V) : Prop := SqL K H a xs ∨ SqT K H a xs
theorem SqA.same {K : PySem.W.Frag} {H H' : Hp} {a : Addr} {xs : List V} (h : SqA K H a xs) (s : Same H H') : SqA K H' a xs := h.imp (fun h => s.seq h) (fun h => same_t s h)
theorem pi_or {X : Cx} {tg l : Expr} {w1 w2 : TI} (h1 : PI X tg l w1) (h2 : PI X tg l w2) : PI X tg l (fun σ H R => w1 σ H R ∨ w2 σ H R) :=
  ⟨fun pins s σ H R I h => h.elim (fun h => h1.run pins s σ H R I h) (fun h => h2.run pins s σ H R I h)⟩
def iAny (K : PySem.W.Frag) (tl : TE) : TI := fun σ H R => iList K tl σ H R ∨ iTup K tl σ H R
theorem pi_any {X : Cx} {tg l : Expr} {tl : TE} (h : PE X l tl) : PI X tg l (iAny X.K tl) := pi_or (pi_list h) (pi_tup h)
theorem it_any {K : PySem.W.Frag} {σ : L2.St} {H H0 : Hp} {R : It → Hp → Prop} {a : Addr} {xs : List V} {tl : TE} (h : ∀ k : VK, k (.ref a) H → tl σ H k) (hs : SqA K H0 a xs) (s0 : Same H0 H)
    (hR : ∀ J : It, Walk J xs.length (fun H' => Same H0 H') (fun i H1 x H2 => H2 = H1 ∧ xs[i]? = some x) → R J H) : iAny K tl σ H R := by
  rcases hs with hs | hs
  · refine .inl (h _ ⟨a, rfl, ⟨xs, s0.seq hs⟩, hR _ ?_⟩)
    exact ⟨fun i H' hi s => (walk_list (K := K) (a := a) (xs := xs)).goes i H' hi (s.seq hs), fun H' s => (walk_list (K := K) (a := a) (xs := xs)).stops H' (s.seq hs), fun i H' x H'' hi s y => (walk_list (K := K) (a := a) (xs := xs)).yields i H' x H'' hi (s.seq hs) y⟩
  · refine .inr (h _ ⟨a, rfl, ⟨xs, same_t s0 hs⟩, hR _ ?_⟩)
    exact ⟨fun i H' hi s => (walk_tup (K := K) (a := a) (xs := xs)).goes i H' hi (same_t s hs), fun H' s => (walk_tup (K := K) (a := a) (xs := xs)).stops H' (same_t s hs), fun i H' x H'' hi s y => (walk_tup (K := K) (a := a) (xs := xs)).yields i H' x H'' hi (same_t s hs) y⟩
/-! ### items of templates -/
abbrev tx (c : List Nat) : V := .str (S c)
/-- letters that may be: 2 to 4 different ones -/
def Row (gs : List Nat) (its : List (List Nat)) : Prop := ∀ x ∈ its, (∃ c, c ∈ gs ∧ x = [c]) ∨ x.Perm gs
def iTx (gs x : List Nat) : List Nat := if 1 < x.length then (if x = gs then [123, 125] else [123] ++ x ++ [125]) else x
def rTx (gs : List Nat) (its : List (List Nat)) : List Nat := if its = [] then [45] else (its.map (iTx gs)).flatten
theorem iTx_len {gs x : List Nat} : (iTx gs x).length ≤ x.length + 2 := by
  unfold iTx
  split
  · split
    · show 2 ≤ _
      omega
    · rw [List.length_append, List.length_append]
      show 1 + _ + 1 ≤ _
      omega
  · omega
theorem flat_len {f : List Nat → List Nat} {m : Nat} : ∀ {its : List (List Nat)}, (∀ x ∈ its, (f x).length ≤ m) → (its.map f).flatten.length ≤ its.length * m
  | [], _ => by simp
  | x :: r, h => by
    have h1 := h x (List.mem_cons_self ..)
    have h2 := flat_len (its := r) fun y hy => h y (List.mem_cons_of_mem _ hy)
    show (f x ++ (r.map f).flatten).length ≤ (r.length + 1) * m
    rw [List.length_append, Nat.add_mul]
    omega
theorem sum_len : ∀ ts : List (List Nat), ((ts.map S).map (·.length)).sum = ts.flatten.length
  | [] => rfl
  | x :: r => by
    show (S x).length + ((r.map S).map (·.length)).sum = (x ++ r.flatten).length
    rw [sum_len r, S_len, List.length_append]
/-! ### promises -/
def spBk : Sp := fun vs H Q _ => ∃ x : List Nat, vs = [tx x] ∧ x.length ≤ 1000 ∧ ∀ H', Same H H' → Q (.bl (decide (1 < x.length))) H'
def spIt : Sp := fun vs H Q _ => ∃ gs x : List Nat, vs = [tx gs, tx x] ∧ gs.length ≤ 1000 ∧ x.length ≤ 1000 ∧ ∀ H', Same H H' → Q (tx (iTx gs x)) H'
def spRt (K : PySem.W.Frag) : Sp := fun vs H Q _ => ∃ (gs : List Nat) (a : Addr) (its : List (List Nat)), vs = [tx gs, .ref a] ∧ gs.length ≤ 1000 ∧ SqA K H a (its.map tx) ∧ its.length ≤ 900 ∧ (∀ x ∈ its, x.length ≤ 900) ∧
  ∀ H', Same H H' → Q (tx (rTx gs its)) H'
/-- the inner items in the place of each blank -/
def putL (gs : List Nat) (its inn : List (List Nat)) : List (List Nat) := (its.map fun x => if 1 < x.length then inn.map fun y => y.map (tau gs x) else [x]).flatten
theorem get_tx {cs : List (List Nat)} {i : Nat} {y : V} (h : (cs.map tx)[i]? = some y) : ∃ c, cs[i]? = some c ∧ y = tx c := by
  rw [List.getElem?_map] at h
  cases e : cs[i]? with
  | none => rw [e] at h; cases h
  | some c => rw [e] at h; exact ⟨c, rfl, (Option.some.inj h).symm⟩
end Own

namespace Own
open PySem PySem.Spec PyProof.Rows L2 SX
theorem slice_mid {a : List Nat} {i j : Nat} : Txt.slice (S a) (some (i : Int)) (some (j : Int)) = S ((a.take j).drop i) := by
  rw [← C8.cutS_slice]
  unfold cutS
  show (⟨_⟩ : Str) = _
  congr 1
  rw [HT.sIx_nat, HT.sIx_nat, S_len]
  congr 1
  show (a.drop (min i a.length)).take (min j a.length - min i a.length) = (a.take j).drop i
  rw [List.drop_take]
  by_cases hi : i ≤ a.length
  · rw [Nat.min_eq_left hi]
    by_cases hj : j ≤ a.length
    · rw [Nat.min_eq_left hj]
    · rw [Nat.min_eq_right (by omega), List.take_of_length_le (by rw [List.length_drop]; omega), List.take_of_length_le (by rw [List.length_drop]; omega)]
  · have e : min i a.length = a.length := Nat.min_eq_right (by omega)
    rw [e, List.drop_eq_nil_of_le (Nat.le_refl _), List.drop_eq_nil_of_le (show a.length ≤ i by omega), List.take_nil, List.take_nil]
theorem mid_app {p z q : List Nat} {i j : Int} (h1 : i = (p.length : Int)) (h2 : j = ((p.length + z.length : Nat) : Int)) : Txt.slice (S (p ++ z ++ q)) (some i) (some j) = S z := by
  subst h1
  subst h2
  rw [slice_mid, List.take_append_of_le_length (by rw [List.length_append]; exact Nat.le_refl _), List.take_of_length_le (by rw [List.length_append]; exact Nat.le_refl _), List.drop_left]
/-! ### forms of items -/
inductive Form (gs : List Nat) : List Nat → List Nat → Prop
  | one {c : Nat} : c ∈ gs → Form gs [c] [c]
  | turn {x : List Nat} : x.Perm gs → Form gs x ([123] ++ x ++ [125])
  | plain : Form gs gs [123, 125]
inductive Forms (gs : List Nat) : List (List Nat) → List (List Nat) → Prop
  | nil : Forms gs [] []
  | cons {x z : List Nat} {its zs : List (List Nat)} : Form gs x z → Forms gs its zs → Forms gs (x :: its) (z :: zs)
/-- a text of the items -/
def Rd (gs : List Nat) (its : List (List Nat)) (t : List Nat) : Prop := (its = [] ∧ t = [45]) ∨ (its ≠ [] ∧ ∃ zs, Forms gs its zs ∧ t = zs.flatten)
theorem form_i {gs x : List Nat} (hg : 2 ≤ gs.length) (h : (∃ c, c ∈ gs ∧ x = [c]) ∨ x.Perm gs) : Form gs x (iTx gs x) := by
  rcases h with ⟨c, hc, rfl⟩ | p
  · have e : iTx gs [c] = [c] := by unfold iTx; rw [if_neg (by show ¬ 1 < 1; omega)]
    rw [e]
    exact .one hc
  · have hl : 1 < x.length := by rw [p.length_eq]; omega
    unfold iTx
    rw [if_pos hl]
    split
    · rename_i e
      rw [e]
      exact .plain
    · exact .turn p
theorem forms_r {gs : List Nat} (hg : 2 ≤ gs.length) : ∀ {its : List (List Nat)}, Row gs its → Forms gs its (its.map (iTx gs))
  | [], _ => .nil
  | x :: r, h => .cons (form_i hg (h x (List.mem_cons_self ..))) (forms_r hg fun y hy => h y (List.mem_cons_of_mem _ hy))
theorem rd_r {gs : List Nat} (hg : 2 ≤ gs.length) {its : List (List Nat)} (h : Row gs its) : Rd gs its (rTx gs its) := by
  unfold rTx
  by_cases e : its = []
  · rw [if_pos e]
    exact .inl ⟨e, rfl⟩
  · rw [if_neg e]
    exact .inr ⟨e, _, forms_r hg h, rfl⟩
theorem form_ne {gs x z : List Nat} (h : Form gs x z) : z ≠ [] := by
  cases h <;> simp
theorem form_head {gs x z : List Nat} (hg : Good gs) (h : Form gs x z) : ∃ c r, z = c :: r ∧ c ≠ 45 := by
  cases h with
  | one hc => exact ⟨_, _, rfl, by have := hg.az _ hc; omega⟩
  | turn p => exact ⟨123, _, rfl, by decide⟩
  | plain => exact ⟨123, _, rfl, by decide⟩
/-! ### promises -/
def spBw : Sp := fun vs H Q _ => ∃ (gs pre post x z : List Nat), vs = [tx gs, tx (pre ++ z ++ post), .int (pre.length : Int)] ∧ Good gs ∧ (pre ++ z ++ post).length ≤ 1000 ∧
  ((z = [123, 125] ∧ ∀ H', Same H H' → Q (.int 2) H') ∨ (x.Perm gs ∧ z = [123] ++ x ++ [125] ∧ ∀ H', Same H H' → Q (.int ((gs.length : Int) + 2)) H'))
def spRd : Sp := fun vs H Q _ => ∃ (gs t : List Nat) (its : List (List Nat)), vs = [tx gs, tx t] ∧ Good gs ∧ t.length ≤ 1000 ∧ Rd gs its t ∧
  ∀ H' p, Same H H' → H p = none → H' p = some (.lst (its.map tx)) → Q (.ref p) H'
def spCLn : Sp := fun vs H Q _ => ∃ gs : List Nat, vs = [tx gs] ∧ Good gs ∧ ∀ H', Same H H' → Q .non H'
/-! ### templates as they lie -/
/-- the template at a: its letters and its items -/
def Tm (C : Addr) (H : Hp) (a : Addr) (gs : List Nat) (its : List (List Nat)) : Prop :=
  ∃ dx p, H a = some (.ins C dx [(Str.ofString "alphabet", tx gs), (Str.ofString "places", V.ref p)]) ∧ H p = some (.tup (its.map tx))
theorem Tm.same {C : Addr} {H H' : Hp} {a : Addr} {gs : List Nat} {its : List (List Nat)} (t : Tm C H a gs its) (s : Same H H') : Tm C H' a gs its := by
  obtain ⟨dx, p, h1, h4⟩ := t
  exact ⟨dx, p, s _ _ h1, s _ _ h4⟩
theorem Tm.go {C : Addr} {H H' : Hp} {a r : Addr} {gs : List Nat} {its : List (List Nat)} (t : Tm C H a gs its) (g : Go r H H') : Tm C H' a gs its := by
  obtain ⟨dx, p, h1, h4⟩ := t
  obtain ⟨xs, er⟩ := g.rng0.ex
  exact ⟨dx, p, g.1 _ _ (ne_of h1 er fun e => by cases e) h1, g.1 _ _ (ne_of h4 er fun e => by cases e) h4⟩
/-- the class -/
structure TmC (K : PySem.W.Frag) (C : Addr) : Prop where
  cls : Cls K C
  na : NoAttr K C "alphabet"
  np : NoAttr K C "places"
/-- __init__: the new instance x gets its two fields -/
def spTi (C : Addr) : Sp := fun vs H Q _ => ∃ (x dx : Addr) (gs t : List Nat) (its : List (List Nat)), vs = [.ref x, tx gs, tx t] ∧ H x = some (.ins C dx []) ∧ Good gs ∧ t.length ≤ 1000 ∧ Rd gs its t ∧
  ∀ H', (∀ b o, b ≠ x → H b = some o → H' b = some o) → Tm C H' x gs its → Q .non H'
def spText (C : Addr) : Sp := fun vs H Q _ => ∃ (a : Addr) (gs : List Nat) (its : List (List Nat)), vs = [.ref a] ∧ Tm C H a gs its ∧ gs.length ≤ 1000 ∧ its.length ≤ 900 ∧ (∀ x ∈ its, x.length ≤ 900) ∧ ∀ H', Same H H' → Q (tx (rTx gs its)) H'
def fillL (gs : List Nat) (its : List (List Nat)) (xs : List Nat) : List Nat := (putL gs its [xs]).flatten
theorem row_len {gs : List Nat} (hg : Good gs) {its : List (List Nat)} (h : Row gs its) : ∀ x ∈ its, x.length ≤ 4 := by
  intro x hx
  have := hg.hi
  rcases h x hx with ⟨c, _, rfl⟩ | p
  · show 1 ≤ 4; omega
  · rw [p.length_eq]; exact hg.hi
theorem row_mem {gs : List Nat} {its : List (List Nat)} (h : Row gs its) : ∀ x ∈ its, ∀ c ∈ x, c ∈ gs := by
  intro x hx c hc
  rcases h x hx with ⟨d, hd, rfl⟩ | p
  · rw [List.mem_singleton.mp hc]; exact hd
  · exact p.mem_iff.mp hc
theorem rTx_len {gs : List Nat} (hg : Good gs) {its : List (List Nat)} (h : Row gs its) (hl : its.length ≤ 160) : (rTx gs its).length ≤ 1000 := by
  unfold rTx
  split
  · show 1 ≤ 1000; omega
  · have := flat_len (f := iTx gs) (m := 6) (its := its) fun x hx => Nat.le_trans iTx_len (by have := row_len hg h x hx; omega)
    omega
end Own

namespace Own
open PySem PySem.Spec PyProof.Rows L2 SX
/-! ### promises of the laws' own helpers -/
theorem Tm.ext {C : Addr} {H H' : Hp} {a : Addr} {gs : List Nat} {its : List (List Nat)} (t : Tm C H a gs its) (e : LamX.ExtN H H') : Tm C H' a gs its := by
  obtain ⟨dx, p, h1, h4⟩ := t
  exact ⟨dx, p, e _ _ h1 (fun ps h => by cases h), e _ _ h4 (fun ps h => by cases h)⟩
def lf1 (gs : List Nat) (xs x : List Nat) : List Nat := if x.length = 1 then x else xs.map (tau gs x)
theorem lf_eq {gs : List Nat} (hg : Good gs) {its : List (List Nat)} (h : Row gs its) (xs : List Nat) : (its.map (lf1 gs xs)).flatten = fillL gs its xs := by
  unfold fillL putL
  induction its with
  | nil => rfl
  | cons x r ih =>
    have ih := ih fun y hy => h y (List.mem_cons_of_mem _ hy)
    rw [List.map_cons, List.flatten_cons, ih, List.map_cons, List.flatten_cons, List.flatten_append]
    congr 1
    have hx := h x (List.mem_cons_self ..)
    unfold lf1
    rcases hx with ⟨c, _, rfl⟩ | p
    · rw [if_pos (show [c].length = 1 from rfl), if_neg (by show ¬ 1 < 1; omega)]
      simp
    · have := p.length_eq
      have := hg.lo
      rw [if_neg (by omega), if_pos (by omega)]
      simp
end Own

namespace Own
open PySem PySem.Spec PyProof.Rows L2 SX
/-! ### x[::-1] of texts and of tuples -/
end Own

namespace Own
open PySem PySem.Spec PyProof.Rows L2 SX
/-! ### a == b, a != b of two instances of one class, by its own __eq__, either answer -/
section
variable {P : Program} {w : World} {A : Around} {E : Value → Shared → Prop} {s : Shared} {K : PySem.W.Frag} {x y C f : Addr} {ox oy : Obj} {dx dy : Option Obj}
end
section
variable {X : Cx} {CX : CXT} {n : Nat} {C f : Addr} {fd : FuncData} {ps : List Str} {sp : Sp} {E : XK}
end
end Own

namespace Own
open PySem PySem.Spec PyProof.Rows L2 SX
/-! ### templates compared, mirrored; promises -/
/-- isinstance facts of the class -/
structure InsC (K : PySem.W.Frag) (C : Addr) : Prop where
  cls : Cls K C
  ha : PySem.W.findIn K (.ref C) "__class__" = some (some (.builtin "object.__class__"))
  hn : PySem.W.specialIn K (.builtin "object.__class__") "__get__" = some (some (.builtin "getset_descriptor.__get__"))
  tk : PySem.W.takesIn K (.builtin "object.__class__") = some true
  ob : PySem.W.mroIn K C (.type "object") = some true
  kit : PySem.W.kitOne K (.ref C) (.ref C) = some true
theorem InsC.ty {K : PySem.W.Frag} {C a dx : Addr} {H : Hp} {fs : List (Str × V)} (i : InsC K C) (e : H a = some (.ins C dx fs)) : TyX K H (.ref a) (.ref C) := .base (.ins e i.cls i.ha i.hn i.tk i.ob)
end Own

namespace Own
open PySem PySem.Spec PyProof.Rows L2 SX
/-! ### templates put into one another -/
theorem none_of {H H' : Hp} (s : Same H H') {p : Addr} (h : H' p = none) : H p = none := by
  cases e : H p with
  | none => rfl
  | some o => rw [s _ _ e] at h; cases h
/-- a template stays where a list is written -/
theorem Tm.put {C : Addr} {H : Hp} {a D : Addr} {gs : List Nat} {its : List (List Nat)} {xs ys : List V} (t : Tm C H a gs its) (hD : H D = some (.lst xs)) : Tm C (upd H D (.lst ys)) a gs its := by
  obtain ⟨dx, p, h1, h4⟩ := t
  exact ⟨dx, p, by rw [upd_ne (ne_of h1 hD fun e => by cases e)]; exact h1, by rw [upd_ne (ne_of h4 hD fun e => by cases e)]; exact h4⟩
/-! ### promises -/
end Own

namespace Own
open PySem PySem.Spec PyProof.Rows L2 SX
/-! ### a == v, a + b by an own class -/
section
variable {X : Cx} {CX : CXT} {n : Nat} {C f : Addr} {fd : FuncData} {ps : List Str} {sp : Sp} {E : XK}
end
/-! ### lists cut -/
theorem cut_to {xs : List V} {k : Nat} (h : k ≤ xs.length) : cutV xs none (some (k : Int)) = xs.take k := by
  unfold cutV
  rw [HT.sIx_none, HT.sIx_nat, List.drop_zero, Nat.sub_zero, Nat.min_eq_left h]
/-! ### promises -/
end Own

namespace Own
open PySem PySem.Spec PyProof.Rows L2 SX
/-! ### len(o), str(o), repr(o) by an own class -/
section
variable {X : Cx} {CX : CXT} {n : Nat} {C f : Addr} {fd : FuncData} {ps : List Str} {sp : Sp} {E : XK}
/-- f(a) from inside of a built-in -/
theorem call_alone {A : Around} {pins : List (Addr × Obj)} {s : Shared} {σ : L2.St} {H : Hp} {a : Addr} {Q : VK} (F : FnOk X.prog X.w X.K X.mg X.base CX n f fd ps sp) (hb : Binds X.K fd ps []) (hx : Passes CX X E)
    (room : Room n A) (fr : A.frames = X.A.frames) (I : Inv X pins σ H s) (asks : sp [.ref a] H Q E) :
    wpAny (model X.prog X.w) A (call (.ref f) [.ref a]) (EP X pins σ Q) X.xe s := by
  have rel : Vals [V.ref a] [Value.ref a] := .cons rfl .nil
  have bound : BindsTo s fd ⟨[.ref a], []⟩ (ps.zip [.ref a]) := by simpa using hb s [.ref a] I.kIn (by simpa using F.len _ _ _ _ asks)
  have around : Env0 X.prog X.w X.K X.mg X.base A X.stack s H := { I.env0 with frames := fr.trans I.env0.frames }
  refine wpAny_call (codeAny_mono (F.run A X.stack s H ⟨[.ref a], []⟩ [.ref a] _ Q E room around bound rel asks) ?_)
  rintro (er | fl) s' out
  · exact hx pins σ H s er s' I out
  · cases fl with
    | ret u => exact I.after out
    | _ => exact out.elim
/-- a method of the class that a built-in asks for -/
structure DunOf (K : PySem.W.Frag) (C : Addr) (m : Str) (f : Addr) : Prop where
  at_ : PySem.W.findIn K (.ref C) m = some (some (.ref f))
  fn : PySem.W.isFn K (.ref f) = true
theorem call_lenO (F : FnOk X.prog X.w X.K X.mg X.base CX n f fd ps sp) (O : DunOf X.K C "__len__" f) (hb : Binds X.K fd ps []) (hx : Passes CX X E) (hr : Room (n + 1) X.A) :
    CallR X (.builtin "len") (fun xs H Q => ∃ a dx fs, xs = [.ref a] ∧ H a = some (.ins C dx fs) ∧ sp [.ref a] H (fun v H' => ∃ k : Nat, v = .int (k : Int) ∧ k < 1000000 ∧ Q (.int (k : Int)) H') E) := by
  rintro pins s σ H _ us Q I r ⟨a, dx, fs, rfl, ha, asks⟩
  obtain ⟨_, rfl, e⟩ := vals1 r
  cases (show _ = Value.ref a from e)
  obtain ⟨_, JA, _⟩ := ins_get I.hok ha
  obtain ⟨_, JA, _⟩ := JA.look
  obtain ⟨m, hF⟩ := I.fr
  refine PySem.W.len_K hF I.ok.mod.kin JA O.at_ O.fn (wpAny_mono (call_alone F hb hx hr.in1 rfl I asks) ?_ fun _ _ e => e)
  rintro _ s' ⟨_, H', I', rz, k, rfl, lt, q⟩
  obtain ⟨t, rfl⟩ := rz
  exact ⟨⟨by omega, by omega⟩, .int (k : Int), H', I'.tok _, ⟨_, rfl⟩, q⟩
end
/-! ### for i, x in enumerate(t), t a tuple -/
set_option maxHeartbeats 1000000 in
theorem enum_makes {v : Value} {o : Obj} {G : Heap → Prop} (B : Begins v o G) : Meets (Builtin.«enumerate.__new__» ⟨[.type "enumerate", v], []⟩) (fun _ R s => G s.heap ∧
    R (.ok (.ret (.ref (s.heap.push o).objs.size))) { s with heap := (s.heap.push o).push { cls := .type "enumerate", data := .fields #[.none, .bool false, .ref s.heap.objs.size, rawInt 0, .none, .none] } }) := by
  refine .of_wp ?_
  rintro prog w A R ⟨hp, g, d, tk, os⟩ ⟨h1, h⟩
  have sub := sub_enumerate
  have start : ∀ {A' : Around} {E : Value → Shared → Prop} {Q : Value → Shared → Prop}, Q (.ref hp.objs.size) ⟨hp.push o, g, d, tk, os⟩ → wpAny (model prog w) A' (pyIter v) Q E ⟨hp, g, d, tk, os⟩ :=
    fun q => B.iter prog w _ _ _ _ h1 q
  wp_walk using start
  refine wpAny_stack_any fun st => wpAny_pure ?_
  split
  all_goals try (rename_i c _ _ _ _ _; cases (c == Value.type "enumerate"))
  all_goals (wp_walk using start; exact ⟨_, rfl, h⟩)
def ItET (K : PySem.W.Frag) (a : Addr) (xs : List V) : It :=
  ⟨fun i H => SqT K H a xs ∧ i < xs.length,
   fun i H v H' => ∃ T x, v = .ref T ∧ H T = none ∧ xs[i]? = some x ∧ H' = upd H T (.tup [.int (i : Nat), x]),
   fun i H => SqT K H a xs ∧ i = xs.length⟩
theorem turnET {P : Program} {w : World} {K : PySem.W.Frag} {elts : List Expr} {kk : Nat} {tpos : Pos} {xs : List V} (a e it : Addr) (ne : e ≠ it) :
    Turn P w K (.Tuple elts kk tpos) (ItET K a xs) [e, it] e (fun i h => (∃ old, IsEnum h e it (0 + (i : Int)) old) ∧ h.IsTupleIter it a i) := by
  have apart : ∀ {h : Heap} {i : Nat} {its : Array Value}, h.IsTupleIter it a i → h.IsTuple a its → a ≠ it := by
    rintro h i its ⟨o, e1, c1, _⟩ ⟨o', e2, c2, _⟩ rfl
    rw [e1] at e2
    cases e2
    rw [c1] at c2
    injection c2 with c2
    exact absurd c2 (by decide)
  refine ⟨List.mem_cons_self, ?_, ?_, ?_, ?_, ?_⟩
  · rintro i h ⟨⟨old, he⟩, ⟨o, ho, _, hd⟩⟩
    simp only [List.forall_mem_cons]
    exact ⟨⟨_, he, fun v => nofun⟩, ⟨o, ho, fun v q => by rw [hd] at q; cases q⟩, fun _ q => nomatch q⟩
  · rintro i h h' ⟨⟨old, he⟩, ⟨o, ho, r⟩⟩ k
    exact ⟨⟨old, k e (by simp) _ he⟩, ⟨o, k it (by simp) _ ho, r⟩⟩
  · rintro X rfl rfl rfl calm i pins s σ H E I0 off ⟨⟨old, he⟩, hit⟩ ⟨hx, hlt⟩
    obtain ⟨its, rel, tup, line⟩ := I0.tuple hx
    have na := apart hit tup
    have nea : e ≠ a := by
      rintro rfl
      obtain ⟨o', e2, c2, _⟩ := tup
      rw [he] at e2
      cases e2
      injection c2 with c2
      exact absurd c2 (by decide)
    have G := GoesN.enumFrom (elts := elts) (x1 := kk) (pos := tpos) 0 (Draws.tuple (prog := X.prog) (w := X.w) (A := X.A.in1) (I0.ok.hd calm) it a na its.toArray) e ne (by simp [ne, nea]) (by simp)
    have lt : i < its.toArray.size := by
      rw [List.size_toArray, ← rel.length]
      exact hlt
    refine G.goes i s (fun u s2 => ∃ x H', Inv X pins σ H' s2 ∧ RelV x u ∧ (ItET X.K a xs).yld i H x H' ∧ ((∃ old, IsEnum s2.heap e it (0 + ((i + 1 : Nat) : Int)) old) ∧ s2.heap.IsTupleIter it a (i + 1)) ∧ ∀ b ∈ [e, it], H' b = none) E lt ⟨⟨old, he⟩, hit, tup⟩ fun u h tk y st' rest _ => ?_
    obtain ⟨T, t, z, rfl, young, hz, tT⟩ := y
    have hz' : its[i]? = some z := by rw [← List.getElem?_toArray]; exact hz
    obtain ⟨x, hxi, rx⟩ : ∃ x, xs[i]? = some x ∧ RelV x z := by
      have hxi := List.getElem?_eq_getElem hlt
      obtain ⟨u', hu', ru⟩ := rel.get hxi
      rw [hz'] at hu'
      cases hu'
      exact ⟨_, hxi, ru⟩
    have wrs : ∀ b o, b ∉ [e, it] → s.heap.get? b = some o → h.get? b = some o := rest
    rw [Int.zero_add] at tT
    refine ⟨.ref T, upd H T (.tup [.int (i : Nat), x]), I0.turnedNew (t' := tk) (ch := [e, it]) wrs off young ?_, rfl, ⟨T, x, rfl, I0.hok.fresh young, hxi, rfl⟩, ⟨st'.1, st'.2.1⟩, fun b hb => ?_⟩
    · obtain ⟨o, e1, e2, e3⟩ := tT
      exact ⟨by show 2 ≤ sizeLine; decide, [_, _], .cons ⟨_, rfl⟩ (.cons rx .nil), o, e1, e2, e3⟩
    · have lb : b < s.heap.objs.size := by
        rcases List.mem_cons.mp hb with rfl | hb
        · exact Heap.lt_size he
        · obtain ⟨_, e1, _⟩ := hit
          rw [List.mem_singleton.mp hb]
          exact Heap.lt_size e1
      rw [upd_ne (Nat.ne_of_lt (Nat.lt_of_lt_of_le lb young))]
      exact (off b hb).1
  · rintro X rfl rfl rfl calm i pins s σ H E I0 off ⟨⟨old, he⟩, hit⟩ ⟨hx, rfl⟩
    obtain ⟨its, rel, tup, line⟩ := I0.tuple hx
    have na := apart hit tup
    have nea : e ≠ a := by
      rintro rfl
      obtain ⟨o', e2, c2, _⟩ := tup
      rw [he] at e2
      cases e2
      injection c2 with c2
      exact absurd c2 (by decide)
    have G := GoesN.enumFrom (elts := elts) (x1 := kk) (pos := tpos) 0 (Draws.tuple (prog := X.prog) (w := X.w) (A := X.A.in1) (I0.ok.hd calm) it a na its.toArray) e ne (by simp [ne, nea]) (by simp)
    have ex : xs.length = its.toArray.size := by rw [List.size_toArray, ← rel.length]
    rw [ex] at he hit
    exact G.stops s (fun s1 => Inv X pins σ H s1) E ⟨⟨old, he⟩, hit, tup⟩ fun h tk rest _ => I0.turnedL (t' := tk) (ch := [e, it]) (fun b o nb q => rest b o nb q) off
  · rintro A i s Q E ⟨⟨_, he⟩, _⟩ h
    exact wpAny_pyIter_enum he h
def iEnT (K : PySem.W.Frag) (ta : TA) : TI := fun σ H R => ta σ H fun vs H1 => ∃ a xs, vs = [.ref a] ∧ SqT K H1 a xs ∧ R (ItET K a xs) H1
theorem pi_enT {X : Cx} {e : Expr} {ta : TA} {p pos tpos : Pos} {elts : List Expr} {kk : Nat} (hg : Gl X "enumerate") (hm : X.mg "enumerate" = none) (ha : PA X [e] ta)
    (hs : starEach [e] X.env = [(false, eval e X.env)] := by rfl) : PI X (.Tuple elts kk tpos) (.Call (.Name "enumerate" p) [e] [] pos) (iEnT X.K ta) := by
  constructor
  intro pins s σ H R I h
  refine Call_ (ld_blt I hg hm boot_enumerate (PyProof.Rows.callWith_type1 (thn (ha.run pos pins s σ H _ I h) ?_) hs rfl))
  rintro us s1 ⟨vs, H1, I1, r1, a, xs, rfl, hx, q⟩
  obtain ⟨u, rfl, e⟩ := vals1 r1
  cases (show u = Value.ref a from e)
  obtain ⟨its, rel, tup, line⟩ := I1.tuple hx
  refine callType_new F.called_enumerate (by decide) (F.typeCall_enumerate_1 _) (F.newCall_enumerate_1 _) (fun obj => F.args_object_init_2 obj _) F.entry_enumerate_new (enum_makes (begins_tuple a its.toArray)) ⟨tup, ?_⟩
  have size : (s1.heap.push { cls := .type "tuple_iterator", data := .fields #[.ref a, .int 0 0] }).objs.size = s1.heap.objs.size + 1 := Heap.size_push ..
  have made : IsEnum ((s1.heap.push { cls := .type "tuple_iterator", data := .fields #[.ref a, .int 0 0] }).push { cls := .type "enumerate", data := .fields #[.none, .bool false, .ref s1.heap.objs.size, rawInt 0, .none, .none] }) (s1.heap.objs.size + 1) s1.heap.objs.size (0 + ((0 : Nat) : Int)) .none := by
    rw [← size]
    exact Heap.get?_push_size _ rfl
  have iter : ((s1.heap.push { cls := .type "tuple_iterator", data := .fields #[.ref a, .int 0 0] }).push { cls := .type "enumerate", data := .fields #[.none, .bool false, .ref s1.heap.objs.size, rawInt 0, .none, .none] }).IsTupleIter s1.heap.objs.size a 0 :=
    ⟨_, Heap.get?_push_of_some _ (Heap.get?_push_size _ rfl), rfl, rfl⟩
  show _ ∧ _
  rw [size]
  refine ⟨⟨_, made, rfl⟩, wpAny_pyIter_enum made ⟨s1.heap.objs.size + 1, _, _, _, H1, rfl, I1.kept (t' := s1.toks) (fun b o x => Heap.get?_push_of_some _ (Heap.get?_push_of_some _ x)), turnET a _ _ (Nat.succ_ne_self _), ⟨⟨.none, made⟩, iter⟩, ?_, q⟩⟩
  have young : ∀ k : Nat, FpOk X pins H1 (s1.heap.objs.size + k) := fun k => I1.fpOk (Nat.le_add_right _ _) (I1.hok.fresh (Nat.le_add_right _ _))
  simp only [List.forall_mem_cons]
  exact ⟨young 1, young 0, fun _ q => nomatch q⟩
theorem walkET {K : PySem.W.Frag} {a : Addr} {xs : List V} : Walk (ItET K a xs) xs.length (fun H => SqT K H a xs) (fun i H v H' => ∃ T x, v = .ref T ∧ H T = none ∧ xs[i]? = some x ∧ H' = upd H T (.tup [.int (i : Nat), x])) :=
  ⟨fun _ _ h q => ⟨q, h⟩, fun _ q => ⟨q, rfl⟩, fun _ _ _ _ _ _ h => h⟩
end Own

namespace Own
open PySem PySem.Spec PyProof.Rows L2 SX
/-! ### parts: (true, turn) for a blank, (false, text) for fixed letters side by side -/
abbrev Part := Bool × List Nat
def tp (l : List (List Nat)) : List Part := if l = [] then [] else [(false, l.flatten)]
/-! ### parts as they lie -/
def kd (b : Bool) : V := .str (Str.ofString (if b then "blank" else "text"))
inductive PsA (H : Hp) : List Addr → List Part → Prop
  | nil : PsA H [] []
  | cons {a : Addr} {p : Part} {as : List Addr} {ps : List Part} : H a = some (.tup [kd p.1, tx p.2]) → PsA H as ps → PsA H (a :: as) (p :: ps)
theorem PsA.same {H H' : Hp} (s : Same H H') {as : List Addr} {ps : List Part} (h : PsA H as ps) : PsA H' as ps := by
  induction h with
  | nil => exact .nil
  | cons h _ ih => exact .cons (s _ _ h) ih
theorem PsA.put {H : Hp} {D : Addr} {xs ys : List V} (hD : H D = some (.lst xs)) {as : List Addr} {ps : List Part} (h : PsA H as ps) : PsA (upd H D (.lst ys)) as ps := by
  induction h with
  | nil => exact .nil
  | cons h _ ih => exact .cons (by rw [upd_ne (ne_of h hD fun e => by cases e)]; exact h) ih
theorem PsA.app {H : Hp} {as bs : List Addr} {ps qs : List Part} (h : PsA H as ps) (h' : PsA H bs qs) : PsA H (as ++ bs) (ps ++ qs) := by
  induction h with
  | nil => exact h'
  | cons h _ ih => exact .cons h ih
theorem PsA.len {H : Hp} {as : List Addr} {ps : List Part} (h : PsA H as ps) : as.length = ps.length := by
  induction h with
  | nil => rfl
  | cons _ _ ih => rw [List.length_cons, List.length_cons, ih]
theorem PsA.one {H : Hp} {a : Addr} {p : Part} (h : H a = some (.tup [kd p.1, tx p.2])) : PsA H [a] [p] := .cons h .nil
theorem PsA.get {H : Hp} {as : List Addr} {ps : List Part} (h : PsA H as ps) : ∀ (i : Nat) (a : Addr) (p : Part), as[i]? = some a → ps[i]? = some p → H a = some (.tup [kd p.1, tx p.2]) := by
  induction h with
  | nil => intro i a p h; simp at h
  | cons h _ ih =>
    intro i a p ha hp
    cases i with
    | zero => cases ha; cases hp; exact h
    | succ i => exact ih i a p ha hp
/-- the last one apart -/
theorem PsA.last {H : Hp} {as : List Addr} {F : List Part} {p : Part} (h : PsA H as (F ++ [p])) : ∃ bs a, as = bs ++ [a] ∧ PsA H bs F ∧ H a = some (.tup [kd p.1, tx p.2]) := by
  induction F generalizing as with
  | nil =>
    cases h with
    | cons h r =>
      cases r
      exact ⟨[], _, rfl, .nil, h⟩
  | cons q F ih =>
    cases h with
    | cons h r =>
      obtain ⟨bs, a, rfl, h1, h2⟩ := ih r
      exact ⟨_ :: bs, a, rfl, .cons h h1, h2⟩
/-- a list of parts at l -/
def PsL (H : Hp) (l : Addr) (ps : List Part) : Prop := ∃ as, H l = some (.lst (as.map V.ref)) ∧ PsA H as ps
theorem PsL.same {H H' : Hp} {l : Addr} {ps : List Part} (h : PsL H l ps) (s : Same H H') : PsL H' l ps := let ⟨as, h1, h2⟩ := h; ⟨as, s _ _ h1, h2.same s⟩
/-! ### parts as data -/
theorem lay_str {c : List Nat} (h : ∀ k ∈ c, k < 128) : PyData.canLay0 (.str (S c)) = true := by
  have := lay_tx [c] (fun x hx k hk => by rw [List.mem_singleton.mp hx] at hk; exact h k hk)
  show ((c.toArray).all (fun k => decide (k < 1114112))) = true
  rw [List.all_toArray, List.all_eq_true]
  intro k hk
  have := h k hk
  exact decide_eq_true (show k < 1114112 by omega)
/-! ### promises -/
end Own

namespace Own
open PySem PySem.Spec PyProof.Rows L2 SX
/-! ### texts of templates that cannot be read -/
/-- neither a letter nor a whole blank begins here -/
def Stuck (gs rest : List Nat) : Prop := rest ≠ [] ∧ (∀ c r, rest = c :: r → c ∉ gs) ∧ (∀ post, rest ≠ [123, 125] ++ post) ∧ ∀ x post, rest = [123] ++ x ++ [125] ++ post → ¬ x.Perm gs
/-- the first character that cannot stand there -/
def Fault (gs t : List Nat) (n : Nat) : Prop := t ≠ [45] ∧ ((t = [] ∧ n = 0) ∨ ∃ its zs rest, Forms gs its zs ∧ t = zs.flatten ++ rest ∧ Stuck gs rest ∧ n = zs.flatten.length)
/-- what begins at a place -/
theorem begins (gs rest : List Nat) : rest = [] ∨ (∃ c r, rest = c :: r ∧ c ∈ gs) ∨ ((∀ c r, rest = c :: r → c ∉ gs) ∧ ∃ post, rest = [123, 125] ++ post) ∨
    ((∀ c r, rest = c :: r → c ∉ gs) ∧ ∃ x post, rest = [123] ++ x ++ [125] ++ post ∧ x.Perm gs) ∨ Stuck gs rest := by
  by_cases h0 : rest = []
  · exact .inl h0
  by_cases h1 : ∃ c r, rest = c :: r ∧ c ∈ gs
  · exact .inr (.inl h1)
  have n1 : ∀ c r, rest = c :: r → c ∉ gs := fun c r e h => h1 ⟨c, r, e, h⟩
  by_cases h2 : ∃ post, rest = [123, 125] ++ post
  · exact .inr (.inr (.inl ⟨n1, h2⟩))
  by_cases h3 : ∃ x post, rest = [123] ++ x ++ [125] ++ post ∧ x.Perm gs
  · exact .inr (.inr (.inr (.inl ⟨n1, h3⟩)))
  exact .inr (.inr (.inr (.inr ⟨h0, n1, fun post e => h2 ⟨post, e⟩, fun x post e p => h3 ⟨x, post, e, p⟩⟩)))
/-- a text is read to its end, or up to a fault -/
theorem parse (gs : List Nat) : ∀ (n : Nat) (t : List Nat), t.length ≤ n → ∃ its zs rest, Forms gs its zs ∧ t = zs.flatten ++ rest ∧ (rest = [] ∨ Stuck gs rest) := by
  intro n
  induction n with
  | zero =>
    intro t h
    exact ⟨[], [], [], .nil, List.length_eq_zero_iff.mp (Nat.le_zero.mp h), .inl rfl⟩
  | succ n ih =>
    intro t h
    have go : ∀ (x z post : List Nat), t = z ++ post → 0 < z.length → Form gs x z → ∃ its zs rest, Forms gs its zs ∧ t = zs.flatten ++ rest ∧ (rest = [] ∨ Stuck gs rest) := by
      intro x z post e hz hf
      rw [e, List.length_append] at h
      obtain ⟨its, zs, rest, h1, h2, h3⟩ := ih post (by omega)
      exact ⟨x :: its, z :: zs, rest, .cons hf h1, by rw [e, h2]; simp, h3⟩
    rcases begins gs t with e | ⟨c, r, e, hc⟩ | ⟨_, post, e⟩ | ⟨_, x, post, e, hp⟩ | hs
    · exact ⟨[], [], [], .nil, e, .inl rfl⟩
    · exact go [c] [c] r e Nat.one_pos (.one hc)
    · exact go gs [123, 125] post e (by decide) .plain
    · exact go x ([123] ++ x ++ [125]) post e (by simp) (.turn hp)
    · exact ⟨[], [], t, .nil, rfl, .inr hs⟩
theorem reads (gs t : List Nat) : (∃ its, Rd gs its t) ∨ ∃ n, Fault gs t n := by
  by_cases h0 : t = [45]
  · exact .inl ⟨[], .inl ⟨rfl, h0⟩⟩
  by_cases h1 : t = []
  · exact .inr ⟨0, h0, .inl ⟨h1, rfl⟩⟩
  obtain ⟨its, zs, rest, h2, h3, h4⟩ := parse gs t.length t (Nat.le_refl _)
  rcases h4 with e | hs
  · rw [e, List.append_nil] at h3
    refine .inl ⟨its, .inr ⟨fun e => ?_, zs, h2, h3⟩⟩
    subst e
    cases h2
    exact h1 h3
  · exact .inr ⟨_, h0, .inr ⟨its, zs, rest, h2, h3, hs, rfl⟩⟩
theorem valid_good {gs : List Nat} (v : Good gs) : Valid gs := ⟨v.lo, v.hi, v.az, v.nd⟩
/-! ### promises -/
theorem both {t1 t3 : TE} {σ : L2.St} {H : Hp} {Q : VK} {b1 b3 : Bool} (h1 : ∀ k : VK, k (.bl b1) H → t1 σ H k)
    (h3 : ∀ k : VK, (∀ H', Same H H' → k (.bl b3) H') → t3 σ H k) (q : ∀ H', Same H H' → Q (.bl (b1 && b3)) H') : tAndV t1 t3 σ H Q := by
  refine h1 _ ⟨b1, rfl, ?_⟩
  cases b1 with
  | false => exact iteF (q _ (Same.refl _))
  | true => exact iteT (h3 _ fun H' s => q _ s)
theorem pe_or {X : Cx} {e : Expr} {t1 t2 : TE} (h1 : PE X e t1) (h2 : PE X e t2) : PE X e (fun σ H Q => t1 σ H Q ∨ t2 σ H Q) :=
  ⟨fun pins s σ H Q I h => h.elim (h1.run pins s σ H Q I) (h2.run pins s σ H Q I)⟩
end Own

namespace Own
open PySem PySem.Spec PyProof.Rows L2 SX PySem.StrLaws
/-! ### t.replace("{" + letters + "}", "{}") of a text that can be read is the text in its shortest form -/
end Own

namespace Own
open PySem PySem.Spec PyProof.Rows L2 SX
end Own

namespace Own
open PySem PySem.Spec PyProof.Rows L2 SX
/-! ### promises with wider limits -/
/-! ### one text, one template -/
/-! ### chains -/
/-- templates in a row, as they lie -/
def Tms (C : Addr) (H : Hp) (gs : List Nat) (ms : List Addr) (l : List (List (List Nat))) : Prop := ms.length = l.length ∧ ∀ (i : Nat) (m : Addr) (its : List (List Nat)), ms[i]? = some m → l[i]? = some its → Tm C H m gs its
theorem Tms.same {C : Addr} {H H' : Hp} {gs : List Nat} {ms : List Addr} {l : List (List (List Nat))} (t : Tms C H gs ms l) (s : Same H H') : Tms C H' gs ms l := ⟨t.1, fun i m its h1 h2 => (t.2 i m its h1 h2).same s⟩
theorem Tms.drop {C : Addr} {H : Hp} {gs : List Nat} {ms : List Addr} {l : List (List (List Nat))} (t : Tms C H gs ms l) (s : Nat) : Tms C H gs (ms.drop s) (l.drop s) := by
  refine ⟨by rw [List.length_drop, List.length_drop, t.1], fun i m its h1 h2 => ?_⟩
  rw [List.getElem?_drop] at h1 h2
  exact t.2 _ m its h1 h2
theorem Tms.at {C : Addr} {H : Hp} {gs : List Nat} {ms : List Addr} {l : List (List (List Nat))} (t : Tms C H gs ms l) {i : Nat} {m : Addr} (h : ms[i]? = some m) : ∃ its, l[i]? = some its ∧ Tm C H m gs its := by
  have hi := (List.getElem?_eq_some_iff.mp h).1
  rw [t.1] at hi
  exact ⟨_, List.getElem?_eq_getElem hi, t.2 i m _ h (List.getElem?_eq_getElem hi)⟩
/-! ### promises of chains -/
/-! ### a class held by a name, made -/
/-! ### a dict comprehension over what is walked -/
theorem dc_it {J : It} {n : Nat} {G : Hp → Prop} {Y : Nat → Hp → V → Hp → Prop} {g : TG} {tt : TT} {tk tv : TE} {vs : List Nat} {σ : L2.St} {H1 : Hp} {D : Addr} {Qd : Hp → Prop} (w : Walk J n G Y) (Pv : Nat → Hp → Prop)
    (h0 : Pv 0 (upd H1 D (.dK []))) (hG : ∀ i H, i ≤ n → Pv i H → G H)
    (turn : ∀ i x H H', i < n → Pv i H → Y i H x H' → g x (wipe σ vs) H' fun σ2 H2 => wipe σ2 vs = wipe σ vs ∧ tt σ2 H2 fun b H3 =>
      if b = true then tk σ2 H3 fun y H4 => tv σ2 H4 fun z H5 => ∃ kvs k, y = kV k ∧ H5 D = some (.dK kvs) ∧ kvs.length < sizeLine ∧ Pv (i + 1) (upd H5 D (.dK (putK kvs k z))) else Pv (i + 1) H3)
    (last : ∀ H, Pv n H → Qd H) :
    ∃ W : Nat → Nat → Hp → Prop, (∃ m, W 0 m (upd H1 D (.dK []))) ∧ ∀ i m H, W i m H →
      (J.stop i H ∧ Qd H) ∨ (J.go i H ∧ ∃ Nx : Hp → Prop, (∀ H', Nx H' → ∃ m', m' < m ∧ W (i + 1) m' H') ∧ ∀ x H', J.yld i H x H' → g x (wipe σ vs) H' fun σ2 H2 => wipe σ2 vs = wipe σ vs ∧ tt σ2 H2 fun b H3 =>
        if b = true then tk σ2 H3 fun y H4 => tv σ2 H4 fun z H5 => ∃ kvs k, y = kV k ∧ H5 D = some (.dK kvs) ∧ kvs.length < sizeLine ∧ Nx (upd H5 D (.dK (putK kvs k z))) else Nx H3) := by
  refine ⟨fun i m H => i + m = n ∧ Pv i H, ⟨n, Nat.zero_add _, h0⟩, ?_⟩
  rintro i m H ⟨em, p⟩
  have le : i ≤ n := by omega
  have stands := hG i H le p
  cases m with
  | zero =>
    have : i = n := em
    subst this
    exact .inl ⟨w.stops H stands, last H p⟩
  | succ m =>
    have lt : i < n := by omega
    refine .inr ⟨w.goes i H lt stands, Pv (i + 1), fun H' p' => ⟨m, Nat.lt_succ_self _, by omega, p'⟩, ?_⟩
    intro x H' y
    exact turn i x H H' lt p (w.yields i H x H' lt stands y)
end Own

namespace Own
open PySem PySem.Spec PyProof.Rows L2 SX
/-! ### fills one after the other -/
/-! ### lists of items, as they lie beside the drawer -/
def Lsts (H : Hp) (r : Addr) (qs : List Addr) (l : List (List (List Nat))) : Prop := qs.length = l.length ∧ ∀ (i : Nat) (q : Addr) (its : List (List Nat)), qs[i]? = some q → l[i]? = some its → q ≠ r ∧ H q = some (.lst (its.map tx))
theorem Lsts.same {H H' : Hp} {r : Addr} {qs : List Addr} {l : List (List (List Nat))} (h : Lsts H r qs l) (s : Same H H') : Lsts H' r qs l := ⟨h.1, fun i q its h1 h2 => ⟨(h.2 i q its h1 h2).1, s _ _ (h.2 i q its h1 h2).2⟩⟩
theorem Lsts.go {H H' : Hp} {r : Addr} {qs : List Addr} {l : List (List (List Nat))} (h : Lsts H r qs l) (g : Go r H H') : Lsts H' r qs l :=
  ⟨h.1, fun i q its h1 h2 => ⟨(h.2 i q its h1 h2).1, g.1 _ _ (h.2 i q its h1 h2).1 (h.2 i q its h1 h2).2⟩⟩
theorem Lsts.at {H : Hp} {r : Addr} {qs : List Addr} {l : List (List (List Nat))} (h : Lsts H r qs l) {i : Nat} {q : Addr} (e : qs[i]? = some q) : ∃ its, l[i]? = some its ∧ q ≠ r ∧ H q = some (.lst (its.map tx)) := by
  have hi := (List.getElem?_eq_some_iff.mp e).1
  rw [h.1] at hi
  exact ⟨_, List.getElem?_eq_getElem hi, h.2 i q _ e (List.getElem?_eq_getElem hi)⟩
theorem Lsts.put {H : Hp} {r D : Addr} {o : HO} {qs : List Addr} {l : List (List (List Nat))} (h : Lsts H r qs l) (n : ∀ q ∈ qs, q ≠ D) : Lsts (upd H D o) r qs l :=
  ⟨h.1, fun i q its h1 h2 => ⟨(h.2 i q its h1 h2).1, by rw [upd_ne (n q (List.mem_of_getElem? h1))]; exact (h.2 i q its h1 h2).2⟩⟩
/-- what is told of drawn rows -/
structure Rows (gs : List Nat) (b n : Nat) (l : List (List (List Nat))) : Prop where
  row : ∀ its ∈ l, Row gs its
  wid : ∀ its ∈ l, its.length ≤ b
  len : l.length ≤ n
theorem Rows.sub {gs : List Nat} {b n : Nat} {l m : List (List (List Nat))} (h : Rows gs b n l) (hm : ∀ x ∈ m, x ∈ l) (hn : m.length ≤ n) : Rows gs b n m := ⟨fun x hx => h.row x (hm x hx), fun x hx => h.wid x (hm x hx), hn⟩
end Own

namespace Own
open PySem PySem.Spec PyProof.Rows L2 SX
/-! ### text * number -/
/-! ### text[::k] -/
end Own

namespace Own
open PySem PySem.Spec PyProof.Rows L2 SX
/-! ### the question -/
def qL (gs : List Nat) (M : Nat) : List Nat := (gs.map fun c => List.replicate M c).flatten
theorem qL_cons (c : Nat) (r : List Nat) (M : Nat) : qL (c :: r) M = List.replicate M c ++ qL r M := rfl
theorem qL_len (M : Nat) : ∀ gs : List Nat, (qL gs M).length = M * gs.length
  | [] => rfl
  | c :: r => by
    rw [qL_cons, List.length_append, List.length_replicate, qL_len M r, List.length_cons, Nat.mul_add, Nat.mul_one, Nat.add_comm]
theorem qL_mem {M : Nat} {c : Nat} : ∀ {gs : List Nat}, c ∈ qL gs M → c ∈ gs := by
  intro gs h
  obtain ⟨l, hl, hc⟩ := List.mem_flatten.mp h
  obtain ⟨d, hd, rfl⟩ := List.mem_map.mp hl
  rw [(List.mem_replicate.mp hc).2]
  exact hd
theorem qL_map (M : Nat) (f : Nat → Nat) : ∀ gs : List Nat, (qL gs M).map f = qL (gs.map f) M
  | [] => rfl
  | c :: r => by rw [qL_cons, List.map_append, List.map_replicate, qL_map M f r, List.map_cons, qL_cons]
theorem qL_tau {gs t : List Nat} {M : Nat} (hg : Good gs) (pt : t.Perm gs) : (qL gs M).map (tau gs t) = qL t M := by rw [qL_map, map_tau hg.nd pt.length_eq]
/-- what stands in the place of a blank -/
theorem fill_bl {gs t : List Nat} {M : Nat} (hg : Good gs) (pt : t.Perm gs) {r : List (List Nat)} (hr : Row gs r) : fillL gs (t :: r) (qL gs M) = qL t M ++ fillL gs r (qL gs M) := by
  have hR : Row gs (t :: r) := fun x hx => by
    rcases List.mem_cons.mp hx with rfl | h
    · exact .inr pt
    · exact hr x h
  rw [← lf_eq hg hR, ← lf_eq hg hr, List.map_cons, List.flatten_cons]
  congr 1
  unfold lf1
  have := pt.length_eq
  have := hg.lo
  rw [if_neg (by omega), qL_tau hg pt]
theorem fill_lt {gs : List Nat} {c : Nat} (hg : Good gs) (hc : c ∈ gs) {r : List (List Nat)} (hr : Row gs r) (xs : List Nat) : fillL gs ([c] :: r) xs = c :: fillL gs r xs := by
  have hR : Row gs ([c] :: r) := fun x hx => by
    rcases List.mem_cons.mp hx with rfl | h
    · exact .inl ⟨c, hc, rfl⟩
    · exact hr x h
  rw [← lf_eq hg hR, ← lf_eq hg hr, List.map_cons, List.flatten_cons]
  rfl
/-- a text read: blanks first -/
inductive Reads (gs : List Nat) (M : Nat) : List Nat → List (List Nat) → Prop
  | nil : Reads gs M [] []
  | blank {t w : List Nat} {r : List (List Nat)} : t.Perm gs → Reads gs M w r → Reads gs M (qL t M ++ w) (t :: r)
  | letter {c : Nat} {w : List Nat} {r : List (List Nat)} : c ∈ gs → (∀ t : List Nat, t.Perm gs → ¬ (qL t M <+: c :: w)) → Reads gs M w r → Reads gs M (c :: w) ([c] :: r)
theorem Reads.row {gs : List Nat} {M : Nat} {w : List Nat} {r : List (List Nat)} (h : Reads gs M w r) : Row gs r := by
  induction h with
  | nil => exact fun x hx => nomatch hx
  | blank pt _ ih =>
    intro x hx
    rcases List.mem_cons.mp hx with rfl | h
    · exact .inr pt
    · exact ih x h
  | letter hc _ _ ih =>
    intro x hx
    rcases List.mem_cons.mp hx with rfl | h
    · exact .inl ⟨_, hc, rfl⟩
    · exact ih x h
theorem Reads.len {gs : List Nat} {M : Nat} (hg : Good gs) (hM : 0 < M) {w : List Nat} {r : List (List Nat)} (h : Reads gs M w r) : r.length ≤ w.length := by
  induction h with
  | nil => exact Nat.le_refl _
  | blank pt _ ih =>
    rw [List.length_cons, List.length_append, qL_len, pt.length_eq]
    have : 1 * 2 ≤ M * gs.length := Nat.mul_le_mul hM hg.lo
    omega
  | letter _ _ _ ih =>
    rw [List.length_cons, List.length_cons]
    omega
theorem Reads.fill {gs : List Nat} {M : Nat} (hg : Good gs) {w : List Nat} {r : List (List Nat)} (h : Reads gs M w r) : fillL gs r (qL gs M) = w := by
  induction h with
  | nil => rfl
  | blank pt h ih => rw [fill_bl hg pt h.row, ih]
  | letter hc _ h ih => rw [fill_lt hg hc h.row, ih]
theorem Reads.mem {gs : List Nat} {M : Nat} {w : List Nat} {r : List (List Nat)} (h : Reads gs M w r) : ∀ c ∈ w, c ∈ gs := by
  induction h with
  | nil => exact fun c hc => nomatch hc
  | blank pt _ ih =>
    intro c hc
    rcases List.mem_append.mp hc with h | h
    · exact pt.mem_iff.mp (qL_mem h)
    · exact ih c h
  | letter hc _ _ ih =>
    intro c h
    rcases List.mem_cons.mp h with rfl | h
    · exact hc
    · exact ih c h
/-! ### promises -/
end Own

namespace Own
open PySem PySem.Spec PyProof.Rows L2 SX LamX
/-! ### a lambda that lies somewhere -/
structure LF where
  params : Arguments
  body : Expr
  scope : Scope
  q : Str
  cl : List (Str × Addr)
  c : Addr
  d : Option (Addr × V)
def LF.dV (F : LF) : Value := match F.d with
  | none => .none
  | some (t, _) => .ref t
abbrev LF.fd (F : LF) (pm ctv : Value) : FuncData :=
  { name := "<lambda>", qualname := F.q, params := F.params, body := .expr F.body, scope := F.scope, globals := mainGlobals, closure := F.cl, defaults := F.dV, kwdefaults := .none, doc := .none, pyModule := pm, annotations := none, code := .ref F.c, closureTuple := ctv, builtins := builtinsNs }
def LamO (f : Addr) (F : LF) : HO := .ext fun h => ∃ (od : Option Addr) (sl : Array (Option Value)) (pm ctv : Value), h.get? f = some (⟨.type "function", od, .func (F.fd pm ctv), sl⟩ : Obj)
/-- the lambda F lies at f, its code object and its default beside it -/
structure LamAt (H : Hp) (f : Addr) (F : LF) : Prop where
  fn : H f = some (LamO f F)
  code : H F.c = some (CodeO F.c F.q)
  dflt : ∀ t v, F.d = some (t, v) → H t = some (.tup [v])
theorem LamAt.same {H H' : Hp} {f : Addr} {F : LF} (l : LamAt H f F) (s : Same H H') : LamAt H' f F := ⟨s _ _ l.fn, s _ _ l.code, fun t v e => s _ _ (l.dflt t v e)⟩
theorem LamAt.ext {H H' : Hp} {f : Addr} {F : LF} (l : LamAt H f F) (e : ExtN H H') : LamAt H' f F :=
  ⟨e _ _ l.fn (fun ps z => by unfold LamO at z; cases z), e _ _ l.code codeO_ne, fun t v h => e _ _ (l.dflt t v h) (fun ps z => by cases z)⟩
theorem LamAt.go {H H' : Hp} {f r : Addr} {F : LF} (l : LamAt H f F) (g : Go r H H') : LamAt H' f F := by
  obtain ⟨xs, er⟩ := g.rng0.ex
  exact ⟨g.1 _ _ (ne_of l.fn er fun z => by unfold LamO at z; cases z) l.fn, g.1 _ _ (ne_of l.code er fun z => by unfold CodeO at z; cases z) l.code, fun t v h => g.1 _ _ (ne_of (l.dflt t v h) er fun z => by cases z) (l.dflt t v h)⟩
/-! ### its making -/
section
variable {M : Model} {A : Around} {E : Value → Shared → Prop} {s : Shared}
theorem clo_tuple {b : Bool} {its : List Value} {jp : Value → Sem Value} {Q : Value → Shared → Prop}
    (h : ∀ ctv h', (∀ b o, s.heap.get? b = some o → h'.get? b = some o) → s.heap.objs.size ≤ h'.objs.size → wpAny M A (jp ctv) Q E { s with heap := h' }) :
    wpAny M A (if b = true then pure .none >>= jp else newTextTuple its >>= jp) Q E s := by
  cases b with
  | true => exact wpAny_bind (wpAny_pure (h .none s.heap (fun _ _ e => e) (Nat.le_refl _)))
  | false => exact wpAny_bind (wpAny_newTextTuple (h _ _ (fun b o e => Heap.get?_push_of_some _ e) (by rw [Heap.size_push]; omega)))
end
section
variable {X : Cx} {pins : List (Addr × Obj)} {σ : L2.St} {H : Hp} {s : Shared}
theorem lam_known {F : LF} {t' : Nat} {pm ctv : Value} (I : Inv X pins σ H s) :
    Inv X pins σ (upd H s.heap.objs.size (LamO s.heap.objs.size F)) { s with heap := s.heap.push { cls := .type "function", data := .func (F.fd pm ctv) }, toks := t' } := by
  have lies : (s.heap.push ({ cls := .type "function", data := .func (F.fd pm ctv) } : Obj)).get? s.heap.objs.size = some ({ cls := .type "function", data := .func (F.fd pm ctv) } : Obj) := Heap.get?_push_size _ rfl
  refine I.laid (a := s.heap.objs.size) (fun b u e => Heap.get?_push_of_some _ e) (Nat.le_refl _) ⟨⟨_, _, pm, ctv, lies⟩, ⟨_, lies⟩, ?_⟩
  rintro h1 h2 ⟨od, sl, p, t, z⟩ st
  exact ⟨od, sl, p, t, st _ z⟩
abbrev lfOf (X : Cx) (params : Arguments) (body : Expr) (scope : Scope) (d : Option (Addr × V)) (c' : Addr) : LF := ⟨params, body, scope, X.env.qual ++ "<lambda>", cloFrom X.env.cells scope.names [], c', d⟩
end
/-! ### its call -/
/-- its own names are none of the def's; it captures the def's -/
structure LamN (N : List Str) (sc scope : Scope) : Prop where
  kind : scope.kind = .function
  co : scope.isCoroutine = false
  gen : scope.isGenerator = false
  nocell : ∀ y ∈ scope.names, y.2 ≠ .cell
  away : ∀ y ∈ scope.names, y.2 = .local → y.1 ∉ N
  free : ∀ y ∈ scope.names, y.2 = .free → sc.names.lookup y.1 = some .cell ∨ sc.names.lookup y.1 = some .free
def lamNB (N : List Str) (sc scope : Scope) : Bool :=
  decide (scope.kind = .function) && (!scope.isCoroutine && (!scope.isGenerator && scope.names.all fun y => !decide (y.2 = .cell) && ((!decide (y.2 = .local) || !decide (y.1 ∈ N)) && (!decide (y.2 = .free) || (decide (sc.names.lookup y.1 = some .cell) || decide (sc.names.lookup y.1 = some .free))))))
theorem lamN_by {N : List Str} {sc scope : Scope} (h : lamNB N sc scope = true) : LamN N sc scope := by
  unfold lamNB at h
  simp only [Bool.and_eq_true, Bool.or_eq_true, Bool.not_eq_true', decide_eq_true_eq, decide_eq_false_iff_not, List.all_eq_true] at h
  obtain ⟨h1, h2, h3, h4⟩ := h
  exact ⟨h1, h2, h3, fun y hy => (h4 y hy).1, fun y hy e => (h4 y hy).2.1.resolve_left fun z => z e, fun y hy e => (h4 y hy).2.2.resolve_left fun z => z e⟩
section
variable {X : Cx} {pins : List (Addr × Obj)} {σ : L2.St} {H HZ : Hp} {s s1 : Shared}
/-- the lambda's frame, entered at s1 from below: what X told of its names it tells still -/
theorem lam_begin {A : Around} {outer : List Env} {E : XK} {scope : Scope} {f c' : Addr} {h₁ : Heap} {tk : Nat} {m : Str → Option Value} (I : Inv X pins σ H s) (L : LamN X.N X.env.scope scope) (e0 : Env0 X.prog X.w X.K X.mg X.base A outer s1 HZ) (hd : A.handled = none)
    (un : Un (frs X.stack) [] H HZ s.heap s1.heap) (hns : h₁.Ns s1.heap.objs.size m) (kp : ∀ b o, s1.heap.get? b = some o → h₁.get? b = some o) :
    Inv (lamCx X A outer s1 HZ E scope f c') [] σ HZ { s1 with heap := h₁, toks := tk } := by
  have has : ∀ y ∈ scope.names, y.2 = .free → ∃ c, X.env.cells.lookup y.1 = some c := fun y hy e => (L.free y hy e).elim (fun k => I.ok.has _ (.inl k)) fun k => I.ok.has _ (.inr k)
  have down : ∀ {y c}, (cloFrom X.env.cells scope.names []).lookup y = some c → X.env.cells.lookup y = some c := fun e => NdefX.clo_cm has e
  have live : ∀ {y c v}, X.env.cells.lookup y = some c → s.heap.IsCell c v → h₁.IsCell c v := by
    rintro y c v e ⟨o, ho, hdat⟩
    obtain ⟨sl, z⟩ := un.any ho (I.freeC y c e) (by simp)
    exact ⟨_, kp _ _ z, hdat⟩
  have none_ex : ∀ b : Addr, b ∉ (lamCx X A outer s1 HZ E scope f c').ex := fun b z => nomatch (show b ∈ ([] : List Addr) from z)
  constructor
  · constructor
    · exact e0.mod
    · exact L.kind
    · rfl
    · rfl
    · exact Nat.le_refl _
    · intro y z c e1 e2
      exact I.ok.inj y z c (down e1) (down e2)
    · rintro y (k | k)
      · exact absurd rfl (L.nocell _ (PySem.mem_of_lookup k))
      · have hy : (y, NameKind.free) ∈ scope.names := PySem.mem_of_lookup k
        obtain ⟨c, hc⟩ := has _ hy rfl
        exact ⟨c, NdefX.clo_has has hy hc⟩
    · intro y c z
      cases (show false = true from z)
    · exact fun _ => hd
    · exact Around.frames_deeper e0.frames
    · exact .inr ⟨rfl, rfl⟩
    · exact fun b z => absurd z (none_ex b)
    · exact e0.bs
    · exact e0.bsz
    · exact fun b _ _ => none_ex b
    · exact fun b z => absurd z (none_ex b)
    · exact e0.funs
    · exact e0.frf
  · rfl
  · exact e0.bare
  · exact Un.kept kp
  · refine ⟨m, hns, ?_⟩
    rintro i y v e1 e2 (k | k | k)
    · exact absurd (List.mem_of_getElem? e1) (L.away _ (PySem.mem_of_lookup k) rfl)
    · exact absurd rfl (L.nocell _ (PySem.mem_of_lookup k))
    · have hy : (y, NameKind.free) ∈ scope.names := PySem.mem_of_lookup k
      obtain ⟨c, hc⟩ := has _ hy rfl
      obtain ⟨m', _, look⟩ := I.loc
      have up := L.free _ hy rfl
      obtain ⟨u, r, z⟩ := look i y v e1 e2 (up.elim (fun k => .inr (.inl k)) fun k => .inr (.inr k))
      refine ⟨u, r, .inr ⟨.inr k, c, NdefX.clo_has has hy hc, ?_⟩⟩
      rcases z with ⟨z, _⟩ | ⟨_, c2, e3, z⟩
      · have z : X.env.scope.names.lookup y = some .local := z
        rcases up with k | k <;> (rw [k] at z; cases z)
      · cases e3.symm.trans hc
        exact live hc z
  · intro y c e
    obtain ⟨v, z⟩ := I.cell y c (down e)
    exact ⟨v, live (down e) z⟩
  · exact e0.hok.fresh (Nat.le_refl _)
  · intro y c e
    obtain ⟨v, o, ho, _⟩ := I.cell y c (down e)
    exact un.free c o ho (I.freeC y c (down e)) (by simp)
  · exact fun q z => nomatch (show q ∈ ([] : List (Addr × Obj)) from z)
  · exact e0.hok.kept kp
  · exact I.len
/-- how its call binds: nothing, or its default -/
def BindsL (F : LF) : Prop := ∀ (pm ctv : Value) (M : Model) (A : Around) (E : Value → Shared → Prop) (s : Shared) (Q : List (Str × Value) → Shared → Prop), (∀ t v, F.d = some (t, v) → ∃ u, IsTup s.heap t #[u]) →
  (∀ binds, (∀ y ∈ binds, F.scope.names.lookup y.1 = some .local) → Q binds s) → wpAny M A (bindArgs (F.fd pm ctv) ⟨[], []⟩) Q E s
theorem bindsL0 {F : LF} (h : ∀ pm ctv, bindArgs (F.fd pm ctv) ⟨[], []⟩ = pure []) : BindsL F := by
  intro pm ctv M A E s Q _ q
  rw [h]
  exact wpAny_pure (q [] fun y hy => nomatch hy)
theorem lam_act {CXg : CXT} {Eg : XK} {Ng : List Str} {qg : Str} {sg : Scope} {g f c' : Addr} {cdg : Value} {params : Arguments} {body : Expr} {scope : Scope} {d : Option (Addr × V)} {k i : Nat} {a : Str} {pn : List (Addr × Obj)} {xe : Value → Shared → Prop} {W : WX} {E : XK} {tb : TE} {p1 p2 : Pos}
    (I : Inv X pins σ H s) (L : LamN X.N X.env.scope scope) (hbind : BindsL (lfOf X params body scope d c'))
    (tk : Takes ((cxOf CXg X.prog X.w X.K X.mg X.base Ng qg sg g cdg X.A X.stack s H Eg).tr pn xe) W) (hW : ∀ cls d σ' H', E cls d H' → W cls d σ' H') (hr : Room (k + 1) (X.A.deeper (envOfC qg sg s.heap.objs.size g cdg)))
    (hbody : ∀ (A : Around) (outer : List Env) (s : Shared) (H : Hp), Room k (A.deeper (lamEnv X scope s.heap.objs.size f c')) → PE (lamCx X A outer s H E scope f c') body tb)
    (hN : Ng[i]? = some a) (hv : Vis sg a) (hd : (a == ("__debug__" : Str)) = false := by decide) (hcd : (a == ("__classdict__" : Str)) = false := by decide) :
    PE ((cxOf CXg X.prog X.w X.K X.mg X.base Ng qg sg g cdg X.A X.stack s H Eg).tr pn xe) (.Call (.Name a p1) [] [] p2)
      (fun σZ HZ Q => σZ[i]? = some (some (.ref f)) ∧ LamAt HZ f (lfOf X params body scope d c') ∧ tb σ HZ Q) := by
  constructor
  rintro pinsZ sZ σZ HZ Q IZ ⟨held, lam, asks⟩
  have look := (pe_var (pos := p1) (i := i) hN hv hd hcd).run pinsZ sZ σZ HZ (fun v H1 => v = .ref f ∧ H1 = HZ) IZ ⟨.ref f, held, rfl, rfl⟩
  refine wpAny_Call_Name_kw (thn look ?_)
  rintro u s1 ⟨v, H1, I1, rel, e1, e2⟩
  subst e2
  subst e1
  cases (show u = Value.ref f from rel)
  obtain ⟨⟨od, sl, pm, ctv, lies⟩, _, _⟩ := I1.hok f _ lam.fn
  obtain ⟨⟨oc, vs, t, hoc, hdc, hvc⟩, _, _⟩ := I1.hok c' _ lam.code
  refine PySem.W.callWith_F0 ⟨_, _, _, _, lies⟩ ?_
  have ran : codeAny (model X.prog X.w) (X.A.deeper (envOfC qg sg s.heap.objs.size g cdg)) (.call (.ref f) ⟨[], []⟩) (CR (L2.CX X.prog X.w) (envOfC qg sg s.heap.objs.size g cdg :: X.stack) X.prog X.w H1 s1 Q E) s1 := by
    refine PySem.W.kla_callFunE hr.depth lies rfl L.co L.gen rfl ⟨c', oc, vs, t, rfl, hoc, hdc, hvc⟩ (hbind pm ctv _ _ _ _ _ (fun t v z => ?_) fun binds hl => ?_)
    · obtain ⟨_, its, vals, tup⟩ := I1.hok t _ (lam.dflt t v z)
      cases vals with
      | cons _ r =>
        cases r with
        | nil => exact ⟨_, tup⟩
    · refine wpAny_newFunctionEnv L.nocell hl (fun h₁ hns hsb => ⟨I1.nolimit.fresh _ hsb, ?_⟩) L.kind
      show codeAny _ _ (.expr body (lamEnv X scope s1.heap.objs.size f c')) _ _
      have kp : ∀ b o, s1.heap.get? b = some o → h₁.get? b = some o := fun b o e => hsb.extBut b o (Nat.ne_of_lt (Heap.lt_size e)) (Heap.get?_push_of_some _ e)
      have J := lam_begin (E := E) (f := f) (c' := c') (tk := s1.toks + binds.length) I L I1.env0 hr.hd (show Un (frs X.stack) [] H H1 s.heap s1.heap from I1.base) hns kp
      refine PySem.W.kla_codeExpr (wpAny_mono ((hbody _ _ s1 H1 (hr.deeper _)).run [] _ _ H1 Q J asks) ?_ fun e s' out => out)
      rintro v s' ⟨w', H', J', rv, q⟩
      exact ⟨w', H', J'.os, J'.bare, J'.base, J'.hok, rv, q⟩
  refine wpAny_call (codeAny_mono ran ?_)
  have passes : Passes (L2.CX X.prog X.w) ((cxOf CXg X.prog X.w X.K X.mg X.base Ng qg sg g cdg X.A X.stack s H Eg).tr pn xe) E := passes_call tk hW
  rintro (e | fl) s' out
  · exact passes pinsZ σZ H1 s1 e s' I1 out
  · cases fl
    all_goals first | exact I1.after out | exact False.elim out
/-- x(f), f a lambda that lies: X is the def that made it, at the state of the call -/
theorem run_lam {TT : (XK → Hp → VK → Prop) → Hp → VK → Prop} {x a : Str} {g f c' : Addr} {k : Nat} {pg : Arguments} {bg : List Stmt} {sg : Scope} {dV kV doc pm cdv ct oc : Value} {an od : Option Addr} {osl : Array (Option Value)} {Ng : List Str}
    {params : Arguments} {body : Expr} {scope : Scope} {d : Option (Addr × V)} {t : XK → TE} {Q : VK} (I : Inv X pins σ H s)
    (lk : X.K.lookup g = some ⟨oc, od, .func (PySem.W.fnOf x x pg bg sg dV kV doc pm an cdv ct), osl⟩) (hcg : PySem.W.codeIn X.K cdv x = true) (hb : L2.Binds X.K (PySem.W.fnOf x x pg bg sg dV kV doc pm an cdv ct) [a] []) (Sg : FnScope Ng [a] sg) (hNg : Ng[0]? = some a) (hva : Vis sg a)
    (hG : GivesTo X Ng x sg g cdv bg a (X.env.qual ++ "<lambda>") TT) (hr : Room (k + 2) X.A) (L : LamN X.N X.env.scope scope) (hbind : BindsL (lfOf X params body scope d c'))
    (hbody : ∀ (A : Around) (outer : List Env) (s : Shared) (H : Hp) (E : XK), Room k (A.deeper (lamEnv X scope s.heap.objs.size f c')) → PE (lamCx X A outer s H E scope f c') body (t E))
    (lam : LamAt H f (lfOf X params body scope d c')) (asks : TT (fun E H' Q' => LamAt H' f (lfOf X params body scope d c') ∧ t E σ H' Q') H Q)
    (hd : (a == ("__debug__" : Str)) = false := by decide) (hcd : (a == ("__classdict__" : Str)) = false := by decide) :
    codeAny (model X.prog X.w) X.A (.call (.ref g) ⟨[.ref f], []⟩) (CR C8.CX0 X.stack X.prog X.w H s Q C8.E0) s := by
  refine run_ofS (N := Ng) (ps := [a]) (us := [.ref f]) (vs := [.ref f]) lk hcg Sg hr I.env0 (hb s [.ref f] I.kIn rfl) (.cons rfl .nil) rfl fun hr' => ?_
  have act : ∀ (W : WX) (pn : List (Addr × Obj)) (xe : Value → Shared → Prop) (E : XK) (p1 p2 : Pos), Takes ((cxOf C8.CX0 X.prog X.w X.K X.mg X.base Ng x sg g cdv X.A X.stack s H C8.E0).tr pn xe) W → (∀ cls d σ' H', E cls d H' → W cls d σ' H') →
      PE ((cxOf C8.CX0 X.prog X.w X.K X.mg X.base Ng x sg g cdv X.A X.stack s H C8.E0).tr pn xe) (.Call (.Name a p1) [] [] p2) (fun σZ HZ Q => σZ[0]? = some (some (.ref f)) ∧ HZ c' = some (CodeO c' (X.env.qual ++ "<lambda>")) ∧ (LamAt HZ f (lfOf X params body scope d c') ∧ t E σ HZ Q)) := by
    intro W pn xe E p1 p2 tk hW
    have step := lam_act (i := 0) (p1 := p1) (p2 := p2) I L hbind tk hW hr' (fun A outer s H hr2 => hbody A outer s H E hr2) hNg hva hd hcd
    exact ⟨fun pins s σ H Q J h => step.run pins s σ H Q J ⟨h.1, h.2.2⟩⟩
  obtain ⟨t', ht', hq'⟩ := hG f c' s H Q (fun E H' Q' => LamAt H' f (lfOf X params body scope d c') ∧ t E σ H' Q') act lam.code asks
  exact ⟨t', ht'.nox, hq'⟩
end
end Own

namespace Own
open PySem PySem.Spec PyProof.Rows L2 SX LamX
section
variable {X : Cx}
/-- a lambda of X's making, and its reading -/
def LamB (X : Cx) (k : Nat) (F : LF) (t : XK → TE) : Prop :=
  ∃ (params : Arguments) (body : Expr) (scope : Scope) (d : Option (Addr × V)) (c' : Addr), F = lfOf X params body scope d c' ∧ LamN X.N X.env.scope scope ∧ BindsL F ∧
    ∀ (f : Addr) (A : Around) (outer : List Env) (s : Shared) (H : Hp) (E : XK), Room k (A.deeper (lamEnv X scope s.heap.objs.size f c')) → PE (lamCx X A outer s H E scope f c') body (t E)
end
end Own

namespace Own
open PySem PySem.Spec PyProof.Rows L2 SX LamX
/-! ### templates of a text -/
theorem lamB_of {X : Cx} {k : Nat} {H : Hp} {f c' : Addr} {params : Arguments} {body : Expr} {scope : Scope} {d : Option (Addr × V)} {t : XK → TE} (la : LamAt H f (lfOf X params body scope d c')) (L : LamN X.N X.env.scope scope) (b : BindsL (lfOf X params body scope d c'))
    (reads : ∀ (f : Addr) (A : Around) (outer : List Env) (s : Shared) (H : Hp) (E : XK), Room k (A.deeper (lamEnv X scope s.heap.objs.size f c')) → PE (lamCx X A outer s H E scope f c') body (t E)) : LamB X k (lfOf X params body scope d c') t :=
  ⟨params, body, scope, d, c', rfl, L, b, reads⟩
end Own

namespace Own
open PySem PySem.Spec PyProof.Rows L2 SX
/-! ### the fields of errors, for all codes -/
def fldA : List V := [.str (Str.ofString "UnknownLetter"), .str (Str.ofString "ParseError")]
def fldB : List V := [.str (Str.ofString "TooLong"), .str (Str.ofString "TooMany"), .str (Str.ofString "LimitReached")]
def fldC : List V := [.str (Str.ofString "InvalidName"), .str (Str.ofString "WrongKind"), .str (Str.ofString "CircularName"), .str (Str.ofString "NameInUse"), .str (Str.ofString "DuplicateName"), .str (Str.ofString "UnknownName")]
def fldD : List V := [.str (Str.ofString "InvalidGame"), .str (Str.ofString "InvalidCommand")]
/-- the name of the field that an error of this code has -/
def fldOf (code : Str) : Option Str :=
  if inV (.str code) fldA = true then some "position" else if inV (.str code) fldB = true then some "limit" else if inV (.str code) fldC = true then some "name"
  else if inV (.str code) fldD = true then some "index" else if decide (V.str code = V.str (Str.ofString "InvalidMachine")) = true then some "room" else none
/-- an error as it lies, of any code -/
def ErrN (K : PySem.W.Frag) (cls : Value) (d : Option Addr) (H : Hp) (code : Str) (v : V) : Prop :=
  ∃ (C dd : Addr) (fs : List (Str × V)), cls = .ref C ∧ d = some dd ∧ H dd = some (.xd fs) ∧ XfC K C ∧ PySem.W.findIn K (.ref C) "code" = some none ∧ fs.lookup ("code" : Str) = some (V.str code) ∧
    (∀ x, fldOf code = some x → PySem.W.findIn K (.ref C) x = some none ∧ fs.lookup x = some v) ∧ (fldOf code = none → v = .non)
def spFldN (K : PySem.W.Frag) : SpX := fun a cls d vs H Q _ => ∃ code v, vs = [.ref a] ∧ ErrN K cls d H code v ∧ ∀ H', Same H H' → Q v H'
def TryN (K : PySem.W.Frag) (CF CM : Addr) : (XK → Hp → VK → Prop) → Hp → VK → Prop := fun tl H Q =>
  tl (fun cls d H' => PySem.W.exmAny K cls [.ref CF, .ref CM] = some true ∧ ∃ code v, ErrN K cls d H' code v ∧
      ∀ H'' t, Same H' H'' → H'' t = none → Q (.ref t) (upd H'' t (.tup [.str code, v]))) H
    (fun v H' => 2 ≤ sizeLine ∧ ∀ t, H' t = none → Q (.ref t) (upd H' t (.tup [.str (Str.ofString "value"), v])))
section
variable {K : PySem.W.Frag} {mg : Str → Option Value} {x : Str} {C d : Addr} {H : Hp}
/-- an error of a code that has no field -/
theorem errN_0 {code : Str} (T : ErrC K mg x C) (h : H d = some (.xd [("code", .str code)])) (e : fldOf code = none) : ErrN K (.ref C) (some d) H code .non :=
  ⟨C, d, _, rfl, rfl, h, T.xf, T.nc, rfl, (fun y hy => by rw [e] at hy; cases hy), fun _ => rfl⟩
theorem errN_1 {code y : Str} {v : V} (T : ErrC K mg x C) (h : H d = some (.xd [(y, v), ("code", .str code)])) (e : fldOf code = some y) (ny : PySem.W.findIn K (.ref C) y = some none) (nc : y ≠ "code") : ErrN K (.ref C) (some d) H code v := by
  refine ⟨C, d, _, rfl, rfl, h, T.xf, T.nc, ?_, fun z hz => ?_, fun z => by rw [e] at z; cases z⟩
  · rw [List.lookup_cons, show (("code" : Str) == y) = false from beq_eq_false_iff_ne.mpr nc.symm]
    rfl
  · rw [e] at hz
    cases hz
    refine ⟨ny, ?_⟩
    rw [List.lookup_cons, beq_self_eq_true]
theorem fl_il : fldOf "InvalidLetters" = none := by decide +kernel
end
/-! ### a text that stands in another one from a place on -/
theorem sw3 {xs ys : List Nat} {i : Nat} (hi : i ≤ xs.length) : Txt.startswith3 (S xs) (S ys) (i : Int) = decide (ys <+: xs.drop i) := by
  unfold Txt.startswith3
  have e : PySem.fromIndex (S xs).length (i : Int) = i := by
    unfold PySem.fromIndex
    rw [if_neg (by omega)]
    omega
  rw [e, PySem.StrLaws.subAt_eq, S_len, S_len]
  show (decide (i + ys.length ≤ xs.length) && ((xs.drop i).take ys.length == ys)) = _
  by_cases h : ys <+: xs.drop i
  · have hl := h.length_le
    rw [List.length_drop] at hl
    rw [decide_eq_true h, decide_eq_true (by omega), ← List.prefix_iff_eq_take.mp h]
    simp
  · rw [decide_eq_false h]
    have : ((xs.drop i).take ys.length == ys) = false := by
      rw [beq_eq_false_iff_ne]
      exact fun z => h (List.prefix_iff_eq_take.mpr z.symm)
    rw [this, Bool.and_false]
/-! ### every text of the letters is read -/
/-! ### the turns that an exchange of two and the turning round of all make -/
/-! ### promises -/
end Own

namespace Own
open PySem PySem.Spec PyProof.Rows L2 SX
/-! ### a head told by facts: one Bool over the written part, the defs, the tables of code objects -/
abbrev Fct : Type := PySem.W.Frag → Bool
/-- the table of a def's code object -/
def codT (K : PySem.W.Frag) (f : Addr) : Addr × Addr := match K.lookup f with
  | some ⟨_, _, .func fd, _⟩ => (match fd.code with
    | .ref c => (c, He.tabOf K c)
    | _ => (0, 0))
  | _ => (0, 0)
structure Told (fs : List Fct) (fn : List He5.DefA) (tf : List (PySem.W.Frag → Addr)) (h : Heap) (K : PySem.W.Frag) : Prop where
  facts : (fs.all fun f => f K) = true
  oks : (fn.all fun d => d.ok K) = true
  defs : (fn.map fun d => He5.fnA K (d.at_ K)) = fn.map He5.DefA.val
  hd : ∀ p ∈ tf, PySem.W.codeHdIn K (codT K (p K)).1 (codT K (p K)).2 = true
  out : ∀ p ∈ tf, K.lookup (codT K (p K)).2 = none
  empty : ∀ p ∈ tf, h.get? (codT K (p K)).2 = some { cls := .none, data := .fields #[] }
def tabB (g : Addr → Option Obj) (tf : List (PySem.W.Frag → Addr)) (K : PySem.W.Frag) : Bool := tf.all fun p => PySem.W.codeHdIn K (codT K (p K)).1 (codT K (p K)).2 && (match g (codT K (p K)).2 with
  | some o => He.emptyTab o
  | none => false)
abbrev partO (n : List Addr) (g : Addr → Option Obj) : PySem.W.Frag := He.frT g n
def obsO (n : List Addr) (fs : List Fct) (fn : List He5.DefA) (tf : List (PySem.W.Frag → Addr)) (g : Addr → Option Obj) : Bool × List He.FnW :=
  ((fs.all fun f => f (partO n g)) && ((fn.all fun d => d.ok (partO n g)) && tabB g tf (partO n g)), fn.map fun d => He5.fnA (partO n g) (d.at_ (partO n g)))
theorem told_of {n : List Addr} {fs : List Fct} {fn : List He5.DefA} {tf : List (PySem.W.Frag → Addr)} {h : Heap} (e : obsO n fs fn tf h.get? = (true, fn.map He5.DefA.val)) : Told fs fn tf h (partO n h.get?) := by
  obtain ⟨e1, e2⟩ := Prod.mk.injEq .. ▸ e
  obtain ⟨c1, c2⟩ := Bool.and_eq_true_iff.mp e1
  obtain ⟨c3, c4⟩ := Bool.and_eq_true_iff.mp c2
  have each : ∀ p ∈ tf, PySem.W.codeHdIn (partO n h.get?) (codT (partO n h.get?) (p (partO n h.get?))).1 (codT (partO n h.get?) (p (partO n h.get?))).2 = true ∧ ∃ o, h.get? (codT (partO n h.get?) (p (partO n h.get?))).2 = some o ∧ He.emptyTab o = true := fun p hp => by
    obtain ⟨d1, d2⟩ := Bool.and_eq_true_iff.mp (List.all_eq_true.mp c4 p hp)
    refine ⟨d1, ?_⟩
    generalize h.get? (codT (partO n h.get?) (p (partO n h.get?))).2 = x at d2
    cases x with
    | none => cases d2
    | some o => exact ⟨o, rfl, d2⟩
  refine ⟨c1, c3, e2, fun p hp => (each p hp).1, fun p hp => ?_, fun p hp => ?_⟩
  · obtain ⟨_, o, q, z⟩ := each p hp
    exact He.frT_none q z
  · obtain ⟨_, o, q, z⟩ := each p hp
    rw [q, He.emptyTab_eq z]
section
variable {fs : List Fct} {fn : List He5.DefA} {tf : List (PySem.W.Frag → Addr)} {h : Heap} {K : PySem.W.Frag}
theorem Told.fact (c : Told fs fn tf h K) (i : Nat) {f : Fct} (e : fs[i]? = some f := by rfl) : f K = true := List.all_eq_true.mp c.facts f (List.mem_of_getElem? e)
theorem Told.def_ (c : Told fs fn tf h K) (i : Nat) {d : He5.DefA} (e : fn[i]? = some d := by rfl) : ∃ fd, FunD K d.name d.qual d.params d.body d.scope (d.dvs K) (d.kws K) (d.at_ K) fd := by
  have e2 : (fn.map fun d => He5.fnA K (d.at_ K))[i]? = (fn.map He5.DefA.val)[i]? := by rw [c.defs]
  rw [List.getElem?_map, List.getElem?_map, e] at e2
  exact He5.DefA.funD (Option.some.inj e2) (List.all_eq_true.mp c.oks d (List.mem_of_getElem? e))
end
/-! ### facts -/
def wfP (K : PySem.W.Frag) (C : Addr) (m : Str) : Addr := He5.wf K C "property" m
def propB (C m : Str) : Fct := fun K => He.eqO (PySem.W.findIn K (.ref (He.ga K C)) m) (some (some (.ref (He.ma K (He.ga K C) m)))) && (decide (PySem.W.specialIn K (.ref (He.ma K (He.ga K C) m)) "__get__" = some (some (.builtin "property.__get__"))) &&
  (decide (PySem.W.takesIn K (.ref (He.ma K (He.ga K C) m)) = some true) && (match PySem.W.recIn K (He.ma K (He.ga K C) m) "property" with
    | some (.ref f :: _) => decide (f = wfP K (He.ga K C) m)
    | _ => false)))
theorem prop_ok {K : PySem.W.Frag} {C m : Str} (h : propB C m K = true) : PropOf K (He.ga K C) m (He.ma K (He.ga K C) m) (wfP K (He.ga K C) m) := by
  obtain ⟨h1, h⟩ := Bool.and_eq_true_iff.mp h
  obtain ⟨h2, h⟩ := Bool.and_eq_true_iff.mp h
  obtain ⟨h3, h4⟩ := Bool.and_eq_true_iff.mp h
  refine ⟨He.eqO_ok h1, of_decide_eq_true h2, of_decide_eq_true h3, ?_⟩
  generalize PySem.W.recIn K (He.ma K (He.ga K C) m) "property" = x at h4
  cases x with
  | none => cases h4
  | some l =>
    cases l with
    | nil => cases h4
    | cons v r =>
      cases v with
      | ref f => exact ⟨r, by rw [of_decide_eq_true h4]⟩
      | _ => cases h4
def slotB : List (Option Value) → Bool
  | [_, _, _, _, some (.builtin id), _] => decide (id = "ValueError.__new__")
  | _ => false
theorem slot_ok {l : List (Option Value)} (h : slotB l = true) : ∃ k0 k1 k2 k3 k5, l = [k0, k1, k2, k3, some (.builtin "ValueError.__new__"), k5] := by
  unfold slotB at h
  split at h
  · exact ⟨_, _, _, _, _, by rw [of_decide_eq_true h]⟩
  · cases h
/-- one of the program's own errors over ValueError -/
def oexB (C : Addr) : Fct := fun K => (match K.lookup C with
  | some ⟨.type t, _, .cls cd, sl⟩ => decide (t = "type") && ((match cd.mro with
      | c :: bm => decide (c = .ref C) && PySem.HandSPX.refsVE bm
      | [] => false) && (cd.hasDict && (!cd.hasDel && slotB sl.toList)))
  | _ => false) && (decide (PySem.W.findIn K (.ref C) "__setattr__" = some (some (.builtin "object.__setattr__"))) && (decide (PySem.W.subIn K (.ref C) (.type "BaseException") = some true) &&
    (decide (PySem.W.typeIn K (.ref C) = some (.type "type")) && PySem.W.keepIn K (.ref C))))
theorem oex_ok {K : PySem.W.Frag} {C : Addr} (h : oexB C K = true) : OexC K C := by
  obtain ⟨h1, h⟩ := Bool.and_eq_true_iff.mp h
  obtain ⟨h2, h⟩ := Bool.and_eq_true_iff.mp h
  obtain ⟨h3, h⟩ := Bool.and_eq_true_iff.mp h
  obtain ⟨h4, h5⟩ := Bool.and_eq_true_iff.mp h
  refine ⟨?_, of_decide_eq_true h2, of_decide_eq_true h3, of_decide_eq_true h4, h5⟩
  generalize hx : K.lookup C = x at h1
  cases x with
  | none => cases h1
  | some o =>
    obtain ⟨oc, od, dt, sl⟩ := o
    cases oc with
    | type t =>
      cases dt with
      | cls cd =>
        obtain ⟨nm, bs, mro, ns, qn, hdct, sn, sub, ab, col, hdel⟩ := cd
        obtain ⟨a1, a⟩ := Bool.and_eq_true_iff.mp h1
        obtain ⟨a2, a⟩ := Bool.and_eq_true_iff.mp a
        obtain ⟨a3, a⟩ := Bool.and_eq_true_iff.mp a
        obtain ⟨a4, a5⟩ := Bool.and_eq_true_iff.mp a
        have e1 := of_decide_eq_true a1
        cases mro with
        | nil => cases a2
        | cons c bm =>
          obtain ⟨b1, b2⟩ := Bool.and_eq_true_iff.mp a2
          have e2 : c = .ref C := of_decide_eq_true b1
          have e3 : hdct = true := a3
          have e4 : hdel = false := by cases hdel with
            | false => rfl
            | true => cases a4
          obtain ⟨l⟩ := sl
          obtain ⟨k0, k1, k2, k3, k5, e5⟩ := slot_ok (l := l) a5
          subst e1 e2 e3 e4 e5
          exact ⟨nm, qn, ns, bs, bm, sn, sub, ab, col, od, k0, k1, k2, k3, k5, rfl, b2⟩
      | _ => cases h1
    | _ => cases dt <;> cases h1
def errB (C : Str) (bs : List Str) : Fct := fun K => oexB (He.ga K C) K && (xfB K (He.ga K C) && (decide (PySem.W.findIn K (.ref (He.ga K C)) "code" = some none) && (decide (PySem.W.findIn K (.ref (He.ga K C)) "position" = some none) && decide (PySem.W.exmAny K (.ref (He.ga K C)) (bs.map fun b => .ref (He.ga K b)) = some true))))
theorem err_ok {K : PySem.W.Frag} {mg : Str → Option Value} {C : Str} {bs : List Str} (g : mg C = some (.ref (He.ga K C))) (h : errB C bs K = true) : ErrC K mg C (He.ga K C) ∧ PySem.W.exmAny K (.ref (He.ga K C)) (bs.map fun b => .ref (He.ga K b)) = some true := by
  obtain ⟨h1, h⟩ := Bool.and_eq_true_iff.mp h
  obtain ⟨h2, h⟩ := Bool.and_eq_true_iff.mp h
  obtain ⟨h3, h⟩ := Bool.and_eq_true_iff.mp h
  obtain ⟨h4, h5⟩ := Bool.and_eq_true_iff.mp h
  exact ⟨⟨oex_ok h1, g, of_decide_eq_true h3, of_decide_eq_true h4, xfB_ok h2⟩, of_decide_eq_true h5⟩
/-- the __init__ of an error -/
def einB (C : Str) : Fct := fun K => He.eqO (PySem.W.findIn K (.ref (He.ga K C)) "__init__") (some (some (.ref (He.ma K (He.ga K C) "__init__")))) && decide (PySem.W.typeIn K (.ref (He.ma K (He.ga K C) "__init__")) = some (.type "function"))
theorem ein_ok {K : PySem.W.Frag} {C : Str} (h : einB C K = true) : PySem.W.findIn K (.ref (He.ga K C)) "__init__" = some (some (.ref (He.ma K (He.ga K C) "__init__"))) ∧ PySem.W.typeIn K (.ref (He.ma K (He.ga K C) "__init__")) = some (.type "function") := by
  obtain ⟨h1, h2⟩ := Bool.and_eq_true_iff.mp h
  exact ⟨He.eqO_ok h1, of_decide_eq_true h2⟩
abbrev faB (f : He.Fa) : Fct := fun K => f.ok K
/-- an own def, where it stands -/
abbrev dG (x : Str) (st : Stmt) : He5.DefA := { at_ := fun K => He.ga K x, name := x, qual := x, params := defArgs st, body := defBody st, scope := defScope st }
abbrev dM (C m q : Str) (st : Stmt) : He5.DefA := { at_ := fun K => He.ma K (He.ga K C) m, name := m, qual := q, params := defArgs st, body := defBody st, scope := defScope st }
abbrev dP (C m q : Str) (st : Stmt) : He5.DefA := { at_ := fun K => wfP K (He.ga K C) m, name := m, qual := q, params := defArgs st, body := defBody st, scope := defScope st }
/-- the law's own table -/
theorem law_tab {fs : List Fct} {fn : List He5.DefA} {tf : List (PySem.W.Frag → Addr)} {h : Heap} {K : PySem.W.Frag} {p : PySem.W.Frag → Addr} {oc : Value} {od : Option Addr} {fd : FuncData} {sl : Array (Option Value)} {cc : Addr}
    (c : Told fs fn tf h K) (hp : p ∈ tf) (lk : K.lookup (p K) = some ⟨oc, od, .func fd, sl⟩) (e : fd.code = .ref cc) :
    h.get? (He.tabOf K cc) = some (PySem.W.tabObj #[]) ∧ K.lookup (He.tabOf K cc) = none ∧ PySem.W.codeHdIn K cc (He.tabOf K cc) = true := by
  have q : codT K (p K) = (cc, He.tabOf K cc) := by
    unfold codT
    rw [lk]
    show (match fd.code with | .ref c => (c, He.tabOf K c) | _ => (0, 0)) = _
    rw [e]
  have h1 := c.hd p hp
  have h2 := c.out p hp
  have h3 := c.empty p hp
  rw [q] at h1 h2 h3
  exact ⟨h3, h2, h1⟩
/-- behind world's special-get-raises both ways -/
theorem two_ways {R : PySem.W.OpenRow} {q : Program} {H : PySem.W.Hook} {ob : PySem.W.SharedT → H.α} {M : Nat} {loose : List Str} (hf : ∀ w : World, HandSHeadRun.RunEq R q H ob M loose (w.withFollow "special-get-raises" false))
    (ht : ∀ w : World, HandSHeadRun.RunEq R q H ob M loose (w.withFollow "special-get-raises" true)) (w : World) : HandSHeadRun.RunEq R q H ob M loose w := PySem.W.byRow2 "special-get-raises" hf ht w
end Own

namespace Own
open PySem PySem.Spec PyProof.Rows L2 SX
/-! ### a head told by facts, with dicts of the top: their keys' hashes are the world's own -/
abbrev DcA : Type := (PySem.W.Frag → Addr) × List Str
def obsD (n : List Addr) (fs : List Fct) (fn : List He5.DefA) (tf : List (PySem.W.Frag → Addr)) (dk : List DcA) (g : Addr → Option Obj) : (Bool × List He.FnW) × List (Option (List (Option (Str × Int)))) :=
  (obsO n fs fn tf g, dk.map fun d : DcA => He.dicW (partO n g) (d.1 (partO n g)))
structure ToldD (fs : List Fct) (fn : List He5.DefA) (tf : List (PySem.W.Frag → Addr)) (dk : List DcA) (w : World) (h : Heap) (K : PySem.W.Frag) : Prop where
  told : Told fs fn tf h K
  dics : dk.map (fun d : DcA => He.dicW K (d.1 K)) = dk.map fun d : DcA => some (He.keysIn w.params d.2)
def hookD (n : List Addr) (fs : List Fct) (fn : List He5.DefA) (tf : List (PySem.W.Frag → Addr)) (dk : List DcA) : PySem.W.Hook where
  α := (Bool × List He.FnW) × List (Option (List (Option (Str × Int))))
  obs := fun s => obsD n fs fn tf dk s.heap.get?
  val := fun w => ((true, fn.map He5.DefA.val), dk.map fun d : DcA => some (He.keysIn w.params d.2))
  says := fun w h => ∃ K : PySem.W.Frag, K.In h ∧ ToldD fs fn tf dk w h K
  of := fun _ _ e => ⟨_, He.frT_in, told_of (congrArg Prod.fst e), congrArg Prod.snd e⟩
  keeps := fun _ _ _ ⟨K, hK, c⟩ k => ⟨K, PySem.W.Frag.In.keeps hK k, ⟨⟨c.told.facts, c.told.oks, c.told.defs, c.told.hd, c.told.out, fun p hp => k _ _ (c.told.empty p hp)⟩, c.dics⟩⟩
theorem obsD_eq {n : List Addr} {fs : List Fct} {fn : List He5.DefA} {tf : List (PySem.W.Frag → Addr)} {dk : List DcA} (s : PySem.W.SharedT) : obsD n fs fn tf dk (HandSHeadRun.getT s) = (hookD n fs fn tf dk).obs s.abs := by
  have e : HandSHeadRun.getT s = s.abs.heap.get? := funext (HandSHeadRun.getT_eq s)
  rw [e]
  rfl
theorem ToldD.dic {fs : List Fct} {fn : List He5.DefA} {tf : List (PySem.W.Frag → Addr)} {dk : List DcA} {w : World} {h : Heap} {K : PySem.W.Frag} (c : ToldD fs fn tf dk w h K) (i : Nat) {d : DcA} (e : dk[i]? = some d := by rfl) : ∃ es n, KDict K w (d.1 K) es n := by
  have h1 := congrArg (fun l : List (Option (List (Option (Str × Int)))) => l[i]?) c.dics
  simp only [List.getElem?_map, e] at h1
  exact He.dicW_ok (Option.some.inj h1)
theorem kdct_of {K : PySem.W.Frag} {w : World} {a : Addr} {es : Array DictEntry} {n : Nat} (D : KDict K w a es n) {kvs : List (Str × He.Dv)} (h : He.valsB K a kvs = true) (i : Nat) {q : Str × He.Dv} (e : kvs[i]? = some q := by rfl) : KDct K w a q.1 (q.2.v K) := by
  obtain ⟨u, h1, h2⟩ := He.valsB_ok h (List.mem_of_getElem? e)
  exact ⟨es, n, u, D.at_, D.lit, h1, h2⟩
end Own

namespace Own
open PySem PySem.W PySem.Calls PyProof.Rows
/-! ### a head's run, looked at three times: each look by its own run (a head that is too large for one) -/
def RunL (r : OpenRow) (M : Nat) (w : World) : Prop :=
  ∀ os : OsState, (HandSHeadRun.endF (HandSHeadRun.stepQ (HandSHeadRun.denQ HandSHeadRun.tabQ) r.prog w) M r.prog w os).map (fun s => HandSHeadRun.looksF r.prog (boot_heap w.params) s.abs) = some true
def RunS (r : OpenRow) (q : Program) (M : Nat) (loose : List PySem.Str) (w : World) : Prop :=
  ∀ os : OsState, (HandSHeadRun.endF (HandSHeadRun.stepQ (HandSHeadRun.denQ HandSHeadRun.tabQ) r.prog w) M r.prog w os).map (fun s => HandSHeadRun.seenQ q loose (importedModules r.prog.main.body) (fun s => xlAt q [] s && recOk r.toRowW.records s) s.abs) = some (openGood q loose)
def RunO (r : OpenRow) (H : Hook) (ob : SharedT → H.α) (M : Nat) (w : World) : Prop :=
  ∀ os : OsState, (HandSHeadRun.endF (HandSHeadRun.stepQ (HandSHeadRun.denQ HandSHeadRun.tabQ) r.prog w) M r.prog w os).map (fun s => ob s) = some (H.val w)
theorem map3 {α β γ δ : Type} {e : Option α} {f : α → β} {g : α → γ} {h : α → δ} {x : β} {y : γ} {z : δ} (h1 : e.map f = some x) (h2 : e.map g = some y) (h3 : e.map h = some z) : e.map (fun s => (f s, g s, h s)) = some (x, y, z) := by
  cases e with
  | none => cases h1
  | some s =>
    have a : f s = x := Option.some.inj h1
    have b : g s = y := Option.some.inj h2
    have c : h s = z := Option.some.inj h3
    show some (f s, g s, h s) = _
    rw [a, b, c]
theorem runEq_of {r : OpenRow} {q : Program} {H : Hook} {ob : SharedT → H.α} {M : Nat} {loose : List PySem.Str} {w : World} (h1 : RunL r M w) (h2 : RunS r q M loose w) (h3 : RunO r H ob M w) : HandSHeadRun.RunEq r q H ob M loose w :=
  fun os => map3 (h1 os) (h2 os) (h3 os)
end Own

namespace Own
open PySem PySem.Spec PyProof.Rows L2 SX
def hTop (i : Nat) : Stmt :=
  PySem.Challenge.pw_ownfill_k77_capacities_of_books.main.body.getD i (.Pass ⟨0, 0, 0, 0⟩)
def hnames0 : List Str := ["_wall", "FillError", "InvalidLetters", "UnknownLetter", "LettersDiffer", "ParseError", "InvalidText", "TooLong", "InvalidName", "WrongKind", "CircularName", "NameInUse", "DuplicateName", "LimitReached", "InvalidCommand", "Missing", "UnknownName", "NothingLeft", "LEAST_LETTERS", "MOST_LETTERS"]
def hnames1 : List Str := ["LOWERCASE", "check_letters", "check_same_letters", "check_text", "is_turn", "turned", "EMPTY_TEXT", "PLAIN_BLANK", "is_blank", "blank_width", "read_row", "item_text", "row_text", "text_parts", "row_parts", "turned_row", "put_row", "Template", "letter_at", "common_size"]
def hnames2 : List Str := ["first_difference", "letters_word", "texts_word", "compared", "FIRST_NODE", "LAST_NODE", "can_stand", "check_pattern", "Net", "read_letters", "pattern_net", "jumped", "read_on", "pattern_holds", "MOST_MODULUS", "MOST_NAME", "HOLDING_WORDS", "read_name", "template_text", "closing_place"]
def hnames3 : List Str := ["two_parts", "match_of", "length_of", "templates_of", "read_simple", "begun_conditions", "linking_word", "read_condition", "parse_condition", "condition_names", "check_no_names", "simple_holds", "nameless_holds", "condition_holds", "ASKING_KINDS", "WORD_KINDS", "Begun", "block_of", "template_end", "read_leaf"]
def hnames4 : List Str := ["read_head", "close_bracket", "next_place", "parse_program", "parts_of", "nodes_of", "program_names", "check_nameless", "names_used", "names_called", "names_asked", "exchanged_condition", "exchanged_program", "exchanged", "MOST_TEXT", "unfolded", "filled_text", "stepped", "Run", "MOST_VALUES"]
def hnames5 : List Str := ["MOST_NAMES", "COMMANDS", "check_commands", "check_name", "check_known", "direct_users", "uses", "check_used", "define", "drop", "rename", "run_command", "full_meaning", "Book", "_law_draws", "_law_draw", "_law_pick", "_law_same", "_law_field", "_law_try"]
def hnames6 : List Str := ["_law_letters", "_law_names", "_law_beyond_capacity"]
abbrev hnames : List Str := hnames0 ++ hnames1 ++ hnames2 ++ hnames3 ++ hnames4 ++ hnames5 ++ hnames6
abbrev hfs : List Fct := [faB (.glo "check_letters"), einB "InvalidLetters", einB "LimitReached", faB (.glo "is_turn"), faB (.glo "is_blank"), faB (.glo "blank_width"), faB (.glo "read_row"), faB (.glo "item_text"), faB (.glo "row_text"), faB (.mkr "Template"), faB (.meth "Template" "text"), faB (.glo "can_stand"), faB (.glo "check_pattern"), faB (.glo "read_name"), faB (.glo "template_text"), faB (.glo "closing_place"), faB (.glo "two_parts"), faB (.glo "match_of"), faB (.glo "length_of"), faB (.glo "templates_of"), faB (.glo "read_simple"), faB (.glo "begun_conditions"), faB (.glo "linking_word"), faB (.glo "read_condition"), faB (.glo "parse_condition"), faB (.glo "condition_names"), faB (.glo "parts_of"), faB (.glo "nodes_of"), faB (.glo "program_names"), faB (.mkr "Begun"), faB (.glo "template_end"), faB (.glo "read_leaf"), faB (.glo "read_head"), faB (.glo "block_of"), faB (.glo "close_bracket"), faB (.glo "next_place"), faB (.glo "parse_program"), faB (.glo "names_used"), faB (.glo "names_called"), faB (.glo "names_asked"), faB (.glo "check_commands"), faB (.glo "check_name"), faB (.glo "uses"), faB (.glo "check_used"), faB (.glo "define"), faB (.glo "run_command"), faB (.mkr "Book"), faB (.meth "Book" "set_capacity"), propB "Book" "capacity", faB (.meth "Book" "__len__"), faB (.meth "Book" "history"), faB (.meth "Book" "undo"), faB (.meth "Book" "redo"), faB (.meth "Book" "apply"), faB (.glo "_law_draws"), faB (.glo "_law_draw"), faB (.glo "_law_pick"), faB (.glo "_law_same"), faB (.glo "_law_field"), faB (.glo "_law_try"), faB (.glo "_law_letters"), faB (.glo "_law_names"), faB (.glo "_law_beyond_capacity"), faB (.glo "law"), faB (.glo "FillError"), faB (.glo "Missing"), faB (.glo "InvalidLetters"), errB "InvalidLetters" ["FillError", "Missing"], faB (.glo "LimitReached"), errB "LimitReached" ["FillError", "Missing"], faB (.glo "Template"), faB (.cls "Template"), faB (.noat "Template" "alphabet"), faB (.noat "Template" "places"), faB (.glo "Begun"), faB (.cls "Begun"), faB (.noat "Begun" "head"), faB (.noat "Begun" "closed"), faB (.noat "Begun" "gathered"), faB (.glo "Book"), faB (.cls "Book"), faB (.noat "Book" "alphabet"), faB (.noat "Book" "entries"), faB (.noat "Book" "past"), faB (.noat "Book" "ahead"), faB (.noat "Book" "kept"), faB (.noat "Book" "many_compiled"), faB (.noat "Book" "most"), faB (.int "LEAST_LETTERS" 2), faB (.int "MOST_LETTERS" 4), faB (.str "LOWERCASE" "abcdefghijklmnopqrstuvwxyz"), faB (.str "EMPTY_TEXT" "-"), faB (.str "PLAIN_BLANK" "{}"), faB (.int "MOST_MODULUS" 60), faB (.int "MOST_NAME" 8), faB (.int "MOST_NAMES" 12), faB (.free "enumerate"), faB (.free "int"), faB (.free "list"), faB (.free "len"), faB (.free "isinstance"), faB (.free "tuple"), faB (.free "all"), faB (.free "zip"), faB (.free "bool"), faB (.free "str"), faB (.free "min"), faB (.free "max"), faB (.free "range"), faB (.free "sorted"), faB (.free "reversed"), faB (.free "dict"), faB (.glo "ASKING_KINDS"), fun K => He.tupB K "ASKING_KINDS" [.str "if", .str "while"], faB (.glo "WORD_KINDS"), fun K => He.tupB K "WORD_KINDS" [.str "fail", .str "call"], fun K => decide (((PySem.W.nsIn K (He.ga K "HOLDING_WORDS") "same").any Option.isSome) = true), fun K => decide (((PySem.W.nsIn K (He.ga K "HOLDING_WORDS") "begins").any Option.isSome) = true), fun K => decide (((PySem.W.nsIn K (He.ga K "HOLDING_WORDS") "ends").any Option.isSome) = true), fun K => decide (((PySem.W.nsIn K (He.ga K "HOLDING_WORDS") "less").any Option.isSome) = true), fun K => decide (PySem.W.findIn K (.ref (He.ga K "LimitReached")) "limit" = some none), faB (.glo "HOLDING_WORDS"), faB (.glo "COMMANDS"), fun K => He.valsB K (He.ga K "COMMANDS") [("condition", .int 3), ("program", .int 3), ("drop", .int 2), ("rename", .int 3)], fun K => decide ((codT K (He.ga K "_law_beyond_capacity")).2 ≠ (codT K (He.ga K "law")).2)]
abbrev hfn : List He5.DefA := [dG "check_letters" (hTop 23), dM "InvalidLetters" "__init__" "InvalidLetters.__init__" (inClass (hTop 3) 0), dM "LimitReached" "__init__" "LimitReached.__init__" (inClass (hTop 14) 0), dG "is_turn" (hTop 26), dG "is_blank" (hTop 31), dG "blank_width" (hTop 32), dG "read_row" (hTop 33), dG "item_text" (hTop 34), dG "row_text" (hTop 35), dM "Template" "__init__" "Template.__init__" (inClass (hTop 40) 0), dM "Template" "text" "Template.text" (inClass (hTop 40) 8), dG "can_stand" (hTop 51), dG "check_pattern" (hTop 52), dG "read_name" (hTop 63), dG "template_text" (hTop 64), dG "closing_place" (hTop 65), dG "two_parts" (hTop 66), dG "match_of" (hTop 67), dG "length_of" (hTop 68), dG "templates_of" (hTop 69), dG "read_simple" (hTop 70), dG "begun_conditions" (hTop 71), dG "linking_word" (hTop 72), dG "read_condition" (hTop 73), dG "parse_condition" (hTop 74), dG "condition_names" (hTop 75), dG "parts_of" (hTop 91), dG "nodes_of" (hTop 92), dG "program_names" (hTop 93), dM "Begun" "__init__" "Begun.__init__" (inClass (hTop 83) 0), dG "template_end" (hTop 85), dG "read_leaf" (hTop 86), dG "read_head" (hTop 87), dG "block_of" (hTop 84), dG "close_bracket" (hTop 88), dG "next_place" (hTop 89), dG "parse_program" (hTop 90), dG "names_used" (hTop 96), dG "names_called" (hTop 97), dG "names_asked" (hTop 98), dG "check_commands" (hTop 112), dG "check_name" (hTop 113), dG "uses" (hTop 116), dG "check_used" (hTop 117), dG "define" (hTop 118), dG "run_command" (hTop 121), { dM "Book" "__init__" "Book.__init__" (inClass (hTop 123) 0) with kwd := [("capacity", .int 12)] }, dM "Book" "set_capacity" "Book.set_capacity" (inClass (hTop 123) 5), dP "Book" "capacity" "Book.capacity" (inClass (hTop 123) 2), dM "Book" "__len__" "Book.__len__" (inClass (hTop 123) 21), dM "Book" "history" "Book.history" (inClass (hTop 123) 9), dM "Book" "undo" "Book.undo" (inClass (hTop 123) 7), dM "Book" "redo" "Book.redo" (inClass (hTop 123) 8), dM "Book" "apply" "Book.apply" (inClass (hTop 123) 6), dG "_law_draws" (hTop 125), dG "_law_draw" (hTop 126), dG "_law_pick" (hTop 127), dG "_law_same" (hTop 128), dG "_law_field" (hTop 129), dG "_law_try" (hTop 130), dG "_law_letters" (hTop 131), dG "_law_names" (hTop 132), dG "_law_beyond_capacity" (hTop 133), dG "law" (hTop 134)]
abbrev htf : List (PySem.W.Frag → Addr) := [fun K => He.ga K "law", fun K => He.ga K "_law_beyond_capacity"]
abbrev hR : PySem.W.OpenRow := PySem.W.OpenLaw.row PySem.Challenge.rw_ownfill_k77_capacities_of_books
def has0 : List Addr := [3, 37, 38, 54, 55, 57, 58, 263, 264, 266, 267, 305, 352, 353, 373, 374, 385, 386, 392, 393, 399, 400, 406, 407, 411, 412, 451, 452, 513, 514, 593, 594, 646, 647, 653, 654, 728, 738, 739, 745, 746, 752, 753, 759, 760, 766, 767, 771, 772, 778, 779, 785, 786, 792, 793, 799, 800, 806, 807, 813, 814, 820, 821, 850, 851, 864, 865, 867, 868, 878, 879, 885, 886, 892, 893, 899, 900, 906, 907, 913, 914, 920, 921, 927, 928, 934, 935, 941, 942, 955, 956, 960, 961, 967, 968, 1088, 1094, 1095, 1099, 1100]
def has1 : List Addr := [1116, 1117, 1123, 1124, 1130, 1131, 1151, 1152, 1165, 1171, 1172, 1186, 1187, 1197, 1211, 1212, 1218, 1219, 1225, 1226, 1232, 1233, 1239, 1240, 1323, 1324, 1333, 1334, 1344, 1345, 1351, 1352, 1358, 1359, 1363, 1364, 1370, 1371, 1377, 1378, 1382, 1383, 1387, 1388, 1394, 1395, 1401, 1402]
abbrev has : List Addr := has0 ++ has1
abbrev hdk : List DcA := [(fun K => He.ga K "HOLDING_WORDS", ["same", "begins", "ends", "less"]), (fun K => He.ga K "COMMANDS", ["condition", "program", "drop", "rename"])]
abbrev hk : PySem.W.Hook := hookD has hfs hfn htf hdk
abbrev hob (s : PySem.W.SharedT) : hk.α := obsD has hfs hfn htf hdk (HandSHeadRun.getT s)
set_option maxHeartbeats 0 in
theorem runL_false (w : World) : RunL hR 11000 (w.withFollow "special-get-raises" false) := by
  intro os
  kernel_rfl
set_option maxHeartbeats 0 in
theorem runS_false (w : World) : RunS hR (PySem.W.view hR.prog [134]) 11000 hnames (w.withFollow "special-get-raises" false) := by
  intro os
  kernel_rfl
set_option maxHeartbeats 0 in
theorem runO_false (w : World) : RunO hR hk hob 11000 (w.withFollow "special-get-raises" false) := by
  intro os
  kernel_rfl
set_option maxHeartbeats 0 in
theorem runL_true (w : World) : RunL hR 11000 (w.withFollow "special-get-raises" true) := by
  intro os
  kernel_rfl
set_option maxHeartbeats 0 in
theorem runS_true (w : World) : RunS hR (PySem.W.view hR.prog [134]) 11000 hnames (w.withFollow "special-get-raises" true) := by
  intro os
  kernel_rfl
set_option maxHeartbeats 0 in
theorem runO_true (w : World) : RunO hR hk hob 11000 (w.withFollow "special-get-raises" true) := by
  intro os
  kernel_rfl
theorem hrun : ∀ w : World, HandSHeadRun.RunEq hR (PySem.W.view hR.prog [134]) hk hob 11000 hnames w := two_ways (fun w => runEq_of (runL_false w) (runS_false w) (runO_false w)) (fun w => runEq_of (runL_true w) (runS_true w) (runO_true w))
end Own

namespace Own
open PySem PySem.Spec PyProof.Rows L2 SX
/-! ### wide bounds: lists of up to four million things -/
end Own

namespace Mch
/-! machines as rows: what the walk of a word is, the order of first occurrences, classes -/
def dl (rows : List (List Nat)) (r p : Nat) : Nat := (rows.getD r []).getD p 0
def wk (rows : List (List Nat)) : Nat → List Nat → Nat
  | r, [] => r
  | r, p :: w => wk rows (dl rows r p) w
structure Ok (d : Nat) (rows : List (List Nat)) : Prop where
  pos : 0 < rows.length
  row : ∀ x ∈ rows, x.length = d
  tg : ∀ x ∈ rows, ∀ t ∈ x, t < rows.length
theorem getD_lt {α : Type} {l : List α} {i : Nat} {d : α} (h : i < l.length) : l.getD i d = l[i] := by
  rw [List.getD_eq_getElem?_getD, List.getElem?_eq_getElem h]; rfl
theorem getD_ge {α : Type} {l : List α} {i : Nat} {d : α} (h : l.length ≤ i) : l.getD i d = d := by
  rw [List.getD_eq_getElem?_getD, List.getElem?_eq_none h]; rfl
theorem getD_map {α β : Type} {l : List α} {i : Nat} {d : α} {e : β} {f : α → β} (h : i < l.length) : (l.map f).getD i e = f (l.getD i d) := by
  rw [getD_lt (by simpa using h), getD_lt h, List.getElem_map]
theorem Ok.dl_lt {d : Nat} {rows : List (List Nat)} (o : Ok d rows) {r p : Nat} (h : r < rows.length) : dl rows r p < rows.length := by
  unfold dl
  rw [getD_lt h]
  by_cases hp : p < rows[r].length
  · rw [getD_lt hp]
    exact o.tg _ (List.getElem_mem h) _ (List.getElem_mem hp)
  · rw [getD_ge (by omega)]
    exact o.pos
theorem Ok.wk_lt {d : Nat} {rows : List (List Nat)} (o : Ok d rows) : ∀ {w : List Nat} {r : Nat}, r < rows.length → wk rows r w < rows.length
  | [], _, h => h
  | p :: w, r, h => Ok.wk_lt o (w := w) (o.dl_lt h)
theorem wk_app {rows : List (List Nat)} : ∀ {u v : List Nat} {r : Nat}, wk rows r (u ++ v) = wk rows (wk rows r u) v
  | [], _, _ => rfl
  | p :: u, v, r => wk_app (u := u) (v := v)
/-! ### first occurrences, in order -/
section
variable {α : Type} [DecidableEq α]
def nubA : List α → List α → List α
  | acc, [] => acc
  | acc, x :: l => nubA (if x ∈ acc then acc else acc ++ [x]) l
theorem nubA_app : ∀ {l m acc : List α}, nubA acc (l ++ m) = nubA (nubA acc l) m
  | [], _, _ => rfl
  | x :: l, m, acc => nubA_app (l := l) (m := m)
theorem nubA_pre : ∀ {l acc : List α}, ∃ r, nubA acc l = acc ++ r
  | [], acc => ⟨[], (List.append_nil _).symm⟩
  | x :: l, acc => by
    obtain ⟨r, hr⟩ := nubA_pre (l := l) (acc := if x ∈ acc then acc else acc ++ [x])
    unfold nubA
    rw [hr]
    split
    · exact ⟨r, rfl⟩
    · exact ⟨x :: r, by rw [List.append_assoc]; rfl⟩
theorem nubA_mem : ∀ {l acc : List α} {x : α}, x ∈ nubA acc l ↔ x ∈ acc ∨ x ∈ l
  | [], acc, x => by simp [nubA]
  | y :: l, acc, x => by
    unfold nubA
    rw [nubA_mem (l := l), List.mem_cons]
    split
    · rename_i h
      constructor
      · rintro (a | a)
        · exact .inl a
        · exact .inr (.inr a)
      · rintro (a | a | a)
        · exact .inl a
        · exact .inl (a ▸ h)
        · exact .inr a
    · rw [List.mem_append, List.mem_singleton, or_assoc]
theorem nubA_nodup : ∀ {l acc : List α}, acc.Nodup → (nubA acc l).Nodup
  | [], _, h => h
  | x :: l, acc, h => by
    unfold nubA
    refine nubA_nodup (l := l) ?_
    split
    · exact h
    · rename_i hx
      rw [List.nodup_append]
      exact ⟨h, by simp, fun a ha b hb => by rw [List.mem_singleton.mp hb]; exact fun e => hx (e ▸ ha)⟩
theorem nubA_le {l acc : List α} : acc.length ≤ (nubA acc l).length := by
  obtain ⟨r, hr⟩ := nubA_pre (l := l) (acc := acc)
  rw [hr, List.length_append]; omega
/-- for each the number of its kind, in the order of first occurrences -/
def numb (l : List α) : List Nat := l.map fun x => (nubA [] l).idxOf x
theorem idxOf_pre {a r : List α} {x : α} (h : x ∈ a) : (a ++ r).idxOf x = a.idxOf x := by
  rw [List.idxOf_append, if_pos h]
theorem idxOf_lt {l : List α} {x : α} (h : x ∈ l) : l.idxOf x < l.length := List.idxOf_lt_length_iff.mpr h
theorem idxOf_get {l : List α} {x : α} (h : x ∈ l) : l[l.idxOf x]? = some x := by
  rw [List.getElem?_eq_getElem (idxOf_lt h), List.getElem_idxOf]
theorem idxOf_of_get {l : List α} (nd : l.Nodup) {i : Nat} {x : α} (h : l[i]? = some x) : l.idxOf x = i := by
  obtain ⟨hi, e⟩ := List.getElem?_eq_some_iff.mp h
  rw [← e]
  exact List.Nodup.idxOf_getElem nd i hi
end
theorem nodup_len {l : List Nat} {n : Nat} (nd : l.Nodup) (h : ∀ x ∈ l, x < n) : l.length ≤ n := by
  induction n generalizing l with
  | zero => cases l with
    | nil => exact Nat.le_refl _
    | cons x l => exact absurd (h x (List.mem_cons_self ..)) (by omega)
  | succ n ih =>
    have h1 : (l.erase n).length ≤ n := ih (nd.erase n) fun x hx => by
      have h2 := h x (List.mem_of_mem_erase hx)
      have h3 : x ≠ n := fun e => by
        subst e
        exact (List.Nodup.not_mem_erase nd) hx
      omega
    have h4 := List.length_erase (a := n) (l := l)
    split at h4 <;> omega
end Mch

namespace Mch
/-! ### the rooms that texts lead to, the classes of rooms that are alike, the least machine -/
def rowOf (rows : List (List Nat)) (r : Nat) : List Nat := rows.getD r []
structure Reach (rows : List (List Nat)) (order : List Nat) : Prop where
  eq : order = nubA [0] (order.flatMap (rowOf rows))
  run : ∀ i, i < order.length → i < (nubA [0] ((order.take i).flatMap (rowOf rows))).length
def waysOf (rows : List (List Nat)) (order : List Nat) : List (List Nat) := order.map fun r => (rowOf rows r).map order.idxOf
section
variable {A : Type} (dA : A)
def toldOf (ans : List A) (order : List Nat) : List A := order.map fun r => ans.getD r dA
/-- classes of rooms: alike ones, and those that no text tells apart -/
structure Alike (d : Nat) (ways : List (List Nat)) (told : List A) (l : List Nat) : Prop where
  len : l.length = ways.length
  ans : ∀ p q, p < ways.length → q < ways.length → l.getD p 0 = l.getD q 0 → told.getD p dA = told.getD q dA
  tgt : ∀ p q, p < ways.length → q < ways.length → l.getD p 0 = l.getD q 0 → ∀ a, a < d → l.getD (dl ways p a) 0 = l.getD (dl ways q a) 0
  eqv : ∀ p q, p < ways.length → q < ways.length → (∀ w, (∀ a ∈ w, a < d) → told.getD (wk ways p w) dA = told.getD (wk ways q w) dA) → l.getD p 0 = l.getD q 0
def leastW (ways : List (List Nat)) (l : List Nat) : List (List Nat) := (nubA [] l).map fun x => (rowOf ways (l.idxOf x)).map fun t => (numb l).getD t 0
def leastT (told : List A) (l : List Nat) : List A := (nubA [] l).map fun x => told.getD (l.idxOf x) dA
def Least (d : Nat) (rows : List (List Nat)) (ans : List A) (W : List (List Nat)) (T : List A) : Prop :=
  ∃ order l, Reach rows order ∧ Alike dA d (waysOf rows order) (toldOf dA ans order) l ∧ W = leastW (waysOf rows order) l ∧ T = leastT dA (toldOf dA ans order) l
end
/-! ### what is known of the rooms reached -/
section
variable {d : Nat} {rows : List (List Nat)} {order : List Nat}
theorem Reach.nd (h : Reach rows order) : order.Nodup := by
  rw [h.eq]
  exact nubA_nodup (by simp)
theorem Reach.pre (h : Reach rows order) : ∃ r, order = 0 :: r := by
  obtain ⟨r, e⟩ := nubA_pre (l := order.flatMap (rowOf rows)) (acc := [0])
  exact ⟨r, h.eq.trans e⟩
theorem Reach.zero (h : Reach rows order) : order.idxOf 0 = 0 := by
  obtain ⟨r, e⟩ := h.pre
  rw [e]
  rfl
theorem Reach.closed (h : Reach rows order) {x t : Nat} (hx : x ∈ order) (ht : t ∈ rowOf rows x) : t ∈ order := by
  rw [h.eq, nubA_mem]
  exact .inr (List.mem_flatMap.mpr ⟨x, hx, ht⟩)
theorem rowOf_mem {rows : List (List Nat)} {r t : Nat} (h : t ∈ rowOf rows r) : r < rows.length ∧ rowOf rows r ∈ rows := by
  unfold rowOf at h ⊢
  by_cases hr : r < rows.length
  · rw [getD_lt hr]
    exact ⟨hr, List.getElem_mem hr⟩
  · rw [getD_ge (by omega)] at h
    cases h
theorem Reach.lt (o : Ok d rows) (h : Reach rows order) : ∀ x ∈ order, x < rows.length := by
  intro x hx
  rw [h.eq, nubA_mem] at hx
  rcases hx with e | e
  · rw [List.mem_singleton.mp e]; exact o.pos
  · obtain ⟨y, _, hy⟩ := List.mem_flatMap.mp e
    exact o.tg _ (rowOf_mem hy).2 _ hy
theorem Reach.len (o : Ok d rows) (h : Reach rows order) : order.length ≤ rows.length := nodup_len h.nd (h.lt o)
theorem rowOf_len (o : Ok d rows) {r : Nat} (h : r < rows.length) : (rowOf rows r).length = d := by
  unfold rowOf
  rw [getD_lt h]
  exact o.row _ (List.getElem_mem h)
theorem waysOf_len : (waysOf rows order).length = order.length := List.length_map ..
theorem waysOf_row {i : Nat} (h : i < order.length) : rowOf (waysOf rows order) i = (rowOf rows order[i]).map order.idxOf := by
  unfold waysOf
  show (List.map _ _).getD i [] = _
  rw [getD_map (d := 0) h, getD_lt h]
theorem waysOf_ok (o : Ok d rows) (h : Reach rows order) : Ok d (waysOf rows order) := by
  refine ⟨?_, ?_, ?_⟩
  · obtain ⟨r, e⟩ := h.pre
    rw [waysOf_len, e]
    exact Nat.succ_pos _
  · intro x hx
    obtain ⟨r, hr, e⟩ := List.mem_map.mp hx
    rw [← e, List.length_map]
    exact rowOf_len o (h.lt o r hr)
  · intro x hx t ht
    obtain ⟨r, hr, e⟩ := List.mem_map.mp hx
    rw [← e] at ht
    obtain ⟨u, hu, e2⟩ := List.mem_map.mp ht
    rw [waysOf_len, ← e2]
    exact idxOf_lt (h.closed hr hu)
theorem dl_eq {rows : List (List Nat)} {r p : Nat} : dl rows r p = (rowOf rows r).getD p 0 := rfl
/-- a step among the reached rooms -/
theorem reach_dl (o : Ok d rows) (h : Reach rows order) {i a : Nat} (hi : i < order.length) (ha : a < d) :
    dl (waysOf rows order) i a < order.length ∧ order.getD (dl (waysOf rows order) i a) 0 = dl rows (order.getD i 0) a := by
  have hx : order[i] ∈ order := List.getElem_mem hi
  have hl := rowOf_len o (h.lt o _ hx)
  have e : dl (waysOf rows order) i a = order.idxOf ((rowOf rows order[i]).getD a 0) := by
    rw [dl_eq, waysOf_row hi, getD_map (d := 0) (by omega)]
  have hm : (rowOf rows order[i]).getD a 0 ∈ order := by
    rw [getD_lt (by omega)]
    exact h.closed hx (List.getElem_mem _)
  rw [e]
  refine ⟨idxOf_lt hm, ?_⟩
  rw [getD_lt hi, getD_lt (idxOf_lt hm), List.getElem_idxOf]
  rfl
theorem reach_wk (o : Ok d rows) (h : Reach rows order) : ∀ {w : List Nat} {i : Nat}, i < order.length → (∀ a ∈ w, a < d) →
    wk (waysOf rows order) i w < order.length ∧ order.getD (wk (waysOf rows order) i w) 0 = wk rows (order.getD i 0) w
  | [], i, hi, _ => ⟨hi, rfl⟩
  | a :: w, i, hi, hw => by
    obtain ⟨h1, h2⟩ := reach_dl o h hi (hw a (List.mem_cons_self ..))
    have q := reach_wk o h (w := w) h1 fun b hb => hw b (List.mem_cons_of_mem _ hb)
    rw [h2] at q
    exact q
theorem reach_wk0 (o : Ok d rows) (h : Reach rows order) {w : List Nat} (hw : ∀ a ∈ w, a < d) :
    wk (waysOf rows order) 0 w < order.length ∧ order.getD (wk (waysOf rows order) 0 w) 0 = wk rows 0 w := by
  obtain ⟨r, e⟩ := h.pre
  have h0 : 0 < order.length := by rw [e]; exact Nat.succ_pos _
  have q := reach_wk o h (w := w) h0 hw
  have e0 : order.getD 0 0 = 0 := by rw [e]; rfl
  rw [e0] at q
  exact q
end
/-! ### the least machine's rows -/
section
variable {d : Nat} {ways : List (List Nat)} {l : List Nat}
theorem nub_mem {l : List Nat} {x : Nat} : x ∈ nubA [] l ↔ x ∈ l := by
  rw [nubA_mem]
  simp
theorem numb_at {l : List Nat} {i : Nat} (h : i < l.length) : (numb l).getD i 0 = (nubA [] l).idxOf (l.getD i 0) := by
  unfold numb
  rw [getD_map (d := 0) h]
theorem numb_lt {l : List Nat} {i : Nat} (h : i < l.length) : (numb l).getD i 0 < (nubA [] l).length := by
  rw [numb_at h]
  exact idxOf_lt (nub_mem.mpr (by rw [getD_lt h]; exact List.getElem_mem h))
theorem leastW_len : (leastW ways l).length = (nubA [] l).length := List.length_map ..
theorem leastW_row {c : Nat} (h : c < (nubA [] l).length) : rowOf (leastW ways l) c = (rowOf ways (l.idxOf (nubA [] l)[c])).map fun t => (numb l).getD t 0 := by
  unfold leastW
  show (List.map _ _).getD c [] = _
  rw [getD_map (d := 0) h, getD_lt h]
/-- the first room of a class -/
theorem first_lt {x : Nat} (h : x ∈ nubA [] l) : l.idxOf x < l.length ∧ l.getD (l.idxOf x) 0 = x := by
  have h' := nub_mem.mp h
  exact ⟨idxOf_lt h', by rw [getD_lt (idxOf_lt h'), List.getElem_idxOf]⟩
theorem nub_le_len : (nubA [] l).length ≤ l.length := by
  have aux : ∀ (m acc : List Nat), (nubA acc m).length ≤ acc.length + m.length := by
    intro m
    induction m with
    | nil => intro acc; exact Nat.le_refl _
    | cons x m ih =>
      intro acc
      unfold nubA
      refine Nat.le_trans (ih _) ?_
      rw [List.length_cons]
      split
      · omega
      · rw [List.length_append]
        show acc.length + 1 + _ ≤ _
        omega
  have := aux l []
  simpa using this
section
variable {A : Type} {dA : A} {told : List A}
theorem least_ok (o : Ok d ways) (a : Alike dA d ways told l) : Ok d (leastW ways l) := by
  have hl := a.len
  refine ⟨?_, ?_, ?_⟩
  · rw [leastW_len]
    have : l.getD 0 0 ∈ nubA [] l := nub_mem.mpr (by rw [getD_lt (by rw [hl]; exact o.pos)]; exact List.getElem_mem _)
    exact List.length_pos_of_mem this
  · intro x hx
    obtain ⟨y, hy, e⟩ := List.mem_map.mp hx
    rw [← e, List.length_map]
    exact rowOf_len o (by rw [← hl]; exact (first_lt hy).1)
  · intro x hx t ht
    obtain ⟨y, hy, e⟩ := List.mem_map.mp hx
    rw [← e] at ht
    obtain ⟨u, hu, e2⟩ := List.mem_map.mp ht
    rw [leastW_len, ← e2]
    refine numb_lt ?_
    rw [hl]
    exact o.tg _ (rowOf_mem hu).2 _ hu
/-- a step between classes -/
theorem least_dl (o : Ok d ways) (a : Alike dA d ways told l) {r p : Nat} (hr : r < ways.length) (hp : p < d) :
    dl (leastW ways l) ((numb l).getD r 0) p = (numb l).getD (dl ways r p) 0 := by
  have hl := a.len
  have hc : (numb l).getD r 0 < (nubA [] l).length := numb_lt (by omega)
  have hx : (nubA [] l)[(numb l).getD r 0] = l.getD r 0 := by
    have e := numb_at (l := l) (i := r) (by omega)
    have hm : l.getD r 0 ∈ nubA [] l := nub_mem.mpr (by rw [getD_lt (by omega)]; exact List.getElem_mem _)
    have q := idxOf_get hm
    rw [← e] at q
    exact (List.getElem?_eq_some_iff.mp q).2
  rw [dl_eq, leastW_row hc, hx]
  have hm : l.getD r 0 ∈ nubA [] l := nub_mem.mpr (by rw [getD_lt (by omega)]; exact List.getElem_mem _)
  obtain ⟨f1, f2⟩ := first_lt hm
  have hw : (rowOf ways (l.idxOf (l.getD r 0))).length = d := rowOf_len o (by omega)
  rw [getD_map (d := 0) (by omega)]
  show (numb l).getD (dl ways (l.idxOf (l.getD r 0)) p) 0 = _
  have ht := a.tgt _ r (by omega) hr f2 p hp
  have h1 := o.dl_lt (r := l.idxOf (l.getD r 0)) (p := p) (by omega)
  have h2 := o.dl_lt (p := p) hr
  rw [numb_at (by omega), numb_at (by omega), ht]
theorem least_wk (o : Ok d ways) (a : Alike dA d ways told l) : ∀ {w : List Nat} {r : Nat}, r < ways.length → (∀ b ∈ w, b < d) →
    wk (leastW ways l) ((numb l).getD r 0) w = (numb l).getD (wk ways r w) 0
  | [], _, _, _ => rfl
  | p :: w, r, hr, hw => by
    show wk _ (dl (leastW ways l) ((numb l).getD r 0) p) w = _
    rw [least_dl o a hr (hw p (List.mem_cons_self ..))]
    exact least_wk o a (w := w) (o.dl_lt hr) fun b hb => hw b (List.mem_cons_of_mem _ hb)
theorem least_told (o : Ok d ways) (a : Alike dA d ways told l) {r : Nat} (hr : r < ways.length) : (leastT dA told l).getD ((numb l).getD r 0) dA = told.getD r dA := by
  have hl := a.len
  have hc : (numb l).getD r 0 < (nubA [] l).length := numb_lt (by omega)
  have hm : l.getD r 0 ∈ nubA [] l := nub_mem.mpr (by rw [getD_lt (by omega)]; exact List.getElem_mem _)
  have hx : (nubA [] l).getD ((numb l).getD r 0) 0 = l.getD r 0 := by
    have e := numb_at (l := l) (i := r) (by omega)
    have q := idxOf_get hm
    rw [← e] at q
    obtain ⟨h1, h2⟩ := List.getElem?_eq_some_iff.mp q
    rw [getD_lt h1, h2]
  unfold leastT
  rw [getD_map (d := 0) hc, hx]
  obtain ⟨f1, f2⟩ := first_lt hm
  exact a.ans _ r (by omega) hr f2
theorem numb_zero (h : 0 < l.length) : (numb l).getD 0 0 = 0 := by
  rw [numb_at h]
  cases l with
  | nil => exact absurd h (by simp)
  | cons x l =>
    obtain ⟨r, hr⟩ := nubA_pre (l := l) (acc := [x])
    have e : nubA [] (x :: l) = nubA [x] l := by simp [nubA]
    rw [e, hr]
    simp
/-- the least machine answers every text as the rooms do -/
theorem Least.same {rows : List (List Nat)} {ans : List A} {W : List (List Nat)} {T : List A} (o : Ok d rows) (h : Least dA d rows ans W T) {w : List Nat} (hw : ∀ a ∈ w, a < d) :
    T.getD (wk W 0 w) dA = ans.getD (wk rows 0 w) dA := by
  obtain ⟨order, l, hr, ha, rfl, rfl⟩ := h
  have o2 := waysOf_ok o hr
  have e0 := numb_zero (l := l) (by rw [ha.len]; exact o2.pos)
  have q := least_wk o2 ha (w := w) o2.pos hw
  rw [e0] at q
  obtain ⟨h1, h2⟩ := reach_wk0 o hr hw
  rw [q, least_told o2 ha (by rw [waysOf_len]; exact h1)]
  unfold toldOf
  rw [getD_map (d := 0) h1, h2]
theorem Least.ok {rows : List (List Nat)} {ans : List A} {W : List (List Nat)} {T : List A} (o : Ok d rows) (h : Least dA d rows ans W T) : Ok d W ∧ T.length = W.length ∧ W.length ≤ rows.length := by
  obtain ⟨order, l, hr, ha, rfl, rfl⟩ := h
  have o2 := waysOf_ok o hr
  refine ⟨least_ok o2 ha, ?_, ?_⟩
  · rw [leastW_len]
    exact List.length_map ..
  · rw [leastW_len]
    refine Nat.le_trans nub_le_len ?_
    rw [ha.len, waysOf_len]
    exact hr.len o
theorem Least.mem {rows : List (List Nat)} {ans : List A} {W : List (List Nat)} {T : List A} (o : Ok d rows) (hn : ans.length = rows.length) (h : Least dA d rows ans W T) : ∀ x ∈ T, x ∈ ans := by
  obtain ⟨order, l, hr, ha, rfl, rfl⟩ := h
  intro x hx
  obtain ⟨y, hy, e⟩ := List.mem_map.mp hx
  have h1 := (first_lt hy).1
  rw [ha.len, waysOf_len] at h1
  rw [← e]
  unfold toldOf
  rw [getD_map (d := 0) h1, getD_lt h1, getD_lt (by rw [hn]; exact hr.lt o _ (List.getElem_mem h1))]
  exact List.getElem_mem _
end
end
end Mch

namespace Mch
/-! ### pairs in runs -/
/-- pairs in order by their keys, none twice -/
structure Pairs (ps : List (Nat × Nat)) : Prop where
  ord : ps.Pairwise fun x y => x.1 ≤ y.1
  nd : ps.Nodup
theorem Pairs.tail {x : Nat × Nat} {ps : List (Nat × Nat)} (h : Pairs (x :: ps)) : Pairs ps := ⟨(List.pairwise_cons.mp h.ord).2, (List.nodup_cons.mp h.nd).2⟩
/-! ### the same members, the same size -/
theorem len_of_mem {a b : List Nat} (ha : a.Nodup) (h : ∀ x ∈ a, x ∈ b) : a.length ≤ b.length := by
  induction a generalizing b with
  | nil => exact Nat.zero_le _
  | cons x a ih =>
    have h1 := List.nodup_cons.mp ha
    have h2 : a.length ≤ (b.erase x).length := ih h1.2 fun y hy => by
      refine (List.mem_erase_of_ne ?_).mpr (h y (List.mem_cons_of_mem _ hy))
      exact fun e => h1.1 (e ▸ hy)
    have h3 := List.length_erase (a := x) (l := b)
    rw [if_pos (h x (List.mem_cons_self ..))] at h3
    have h4 := List.length_pos_of_mem (h x (List.mem_cons_self ..))
    rw [List.length_cons]
    omega
theorem all_of_len {a b : List Nat} (ha : a.Nodup) (h : ∀ x ∈ a, x ∈ b) (hl : b.length ≤ a.length) : ∀ x ∈ b, x ∈ a := by
  intro x hx
  by_cases q : x ∈ a
  · exact q
  · have h1 := len_of_mem (a := x :: a) (List.nodup_cons.mpr ⟨q, ha⟩) (b := b) fun y hy => by
      rcases List.mem_cons.mp hy with e | e
      · rw [e]; exact hx
      · exact h y e
    rw [List.length_cons] at h1
    omega
/-! ### stores -/
def setAll (cl : List Nat) : List Nat → Nat → List Nat
  | [], _ => cl
  | r :: rs, c => setAll (cl.set r c) rs c
theorem setAll_len {cl : List Nat} {c : Nat} : ∀ {rs : List Nat}, (setAll cl rs c).length = cl.length := by
  intro rs
  induction rs generalizing cl with
  | nil => rfl
  | cons r rs ih =>
    unfold setAll
    rw [ih, List.length_set]
theorem setAll_get {c r : Nat} : ∀ {rs cl : List Nat}, r < cl.length → (setAll cl rs c).getD r 0 = if r ∈ rs then c else cl.getD r 0 := by
  intro rs
  induction rs with
  | nil => intro cl h; simp [setAll]
  | cons x rs ih =>
    intro cl h
    unfold setAll
    rw [ih (by simpa using h)]
    by_cases q : r ∈ rs
    · rw [if_pos q, if_pos (List.mem_cons_of_mem _ q)]
    · rw [if_neg q]
      by_cases e : x = r
      · subst e
        rw [if_pos (List.mem_cons_self ..), getD_lt (by simpa using h), List.getElem_set_self]
      · rw [if_neg (by rw [List.mem_cons]; exact fun z => z.elim (fun z => e z.symm) q), getD_lt (by simpa using h), getD_lt h, List.getElem_set_ne e]
end Mch

namespace Mch
/-! ### classes that are split until no letter tells rooms of one class apart -/
def mo (ms : List (List Nat)) (cl : List Nat) (c : Nat) : List Nat := (ms.getD c []).filter fun r => decide (cl.getD r 0 = c)
def cnt (R : Nat) (cl : List Nat) (c : Nat) : Nat := ((List.range R).filter fun r => decide (cl.getD r 0 = c)).length
section
variable {A : Type} (dA : A) (d R : Nat) (ways : List (List Nat)) (told : List A)
def Eqv (p q : Nat) : Prop := ∀ w, (∀ a ∈ w, a < d) → told.getD (wk ways p w) dA = told.getD (wk ways q w) dA
structure HInv (cl : List Nat) (ms : List (List Nat)) (sz : List Nat) : Prop where
  clen : cl.length = R
  slen : sz.length = ms.length
  clt : ∀ r, r < R → cl.getD r 0 < ms.length
  mnd : ∀ c, c < ms.length → (ms.getD c []).Nodup
  mlt : ∀ c, c < ms.length → ∀ r ∈ ms.getD c [], r < R
  mem : ∀ r, r < R → r ∈ ms.getD (cl.getD r 0) []
  siz : ∀ c, c < ms.length → sz.getD c 0 = cnt R cl c
  pos : ∀ c, c < ms.length → 0 < sz.getD c 0
  ans : ∀ p q, p < R → q < R → cl.getD p 0 = cl.getD q 0 → told.getD p dA = told.getD q dA
  eqv : ∀ p q, p < R → q < R → Eqv dA d ways told p q → cl.getD p 0 = cl.getD q 0
/-- rooms of a class that a letter parts: some waiting class tells them, or it is still to come -/
def Sep (cl wt : List Nat) (rem : Nat → Nat → Prop) (Y : Nat → Prop) : Prop := ∀ p q a, p < R → q < R → a < d → cl.getD p 0 = cl.getD q 0 → cl.getD (dl ways p a) 0 ≠ cl.getD (dl ways q a) 0 →
  (∃ c ∈ wt, ¬ (cl.getD (dl ways p a) 0 = c ↔ cl.getD (dl ways q a) 0 = c)) ∨ (rem a (cl.getD p 0) ∧ ¬ (Y (dl ways p a) ↔ Y (dl ways q a)))
end
section
variable {A : Type} {dA : A} {d R : Nat} {ways : List (List Nat)} {told : List A} {cl : List Nat} {ms : List (List Nat)} {sz wt : List Nat}
theorem cnt_mem {c r : Nat} : r ∈ (List.range R).filter (fun r => decide (cl.getD r 0 = c)) ↔ r < R ∧ cl.getD r 0 = c := by
  rw [List.mem_filter, decide_eq_true_iff, List.mem_range]
theorem cnt_nd {c : Nat} : ((List.range R).filter (fun r => decide (cl.getD r 0 = c))).Nodup := List.nodup_range.filter _
theorem HInv.all (I : HInv dA d R ways told cl ms sz) {c : Nat} (hc : c < ms.length) {hit : List Nat} (hnd : hit.Nodup) (hin : ∀ r ∈ hit, r < R ∧ cl.getD r 0 = c) (hl : hit.length = sz.getD c 0) :
    ∀ r, r < R → cl.getD r 0 = c → r ∈ hit := by
  intro r h1 h2
  refine all_of_len hnd (b := (List.range R).filter fun r => decide (cl.getD r 0 = c)) (fun x hx => cnt_mem.mpr (hin x hx)) ?_ r (cnt_mem.mpr ⟨h1, h2⟩)
  rw [hl, I.siz c hc]
  exact Nat.le_refl _
/-- how a class is parted: the rooms that go, the lists behind it -/
structure Part (c : Nat) (hit small : List Nat) (ms1 : List (List Nat)) : Prop where
  nd : small.Nodup
  inn : ∀ r ∈ small, r < R ∧ cl.getD r 0 = c
  ne : small ≠ []
  lt : small.length < sz.getD c 0
  iff : ∀ p q, p < R → q < R → cl.getD p 0 = c → cl.getD q 0 = c → ((p ∈ small ↔ q ∈ small) ↔ (p ∈ hit ↔ q ∈ hit))
  len : ms1.length = ms.length
  els : ∀ x, x ≠ c → ms1.getD x [] = ms.getD x []
  mnd : (ms1.getD c []).Nodup
  mlt : ∀ r ∈ ms1.getD c [], r < R
  mem : ∀ r, r < R → cl.getD r 0 = c → r ∉ small → r ∈ ms1.getD c []
theorem getD_snoc_lt {α : Type} {l : List α} {x dx : α} {i : Nat} (h : i < l.length) : (l ++ [x]).getD i dx = l.getD i dx := by
  rw [getD_lt (by rw [List.length_append]; omega), getD_lt h, List.getElem_append_left h]
theorem getD_snoc_eq {α : Type} {l : List α} {x dx : α} : (l ++ [x]).getD l.length dx = x := by
  rw [getD_lt (by rw [List.length_append]; show _ < _ + 1; omega), List.getElem_append_right (Nat.le_refl _)]
  simp
/-- the classes behind the split -/
theorem Part.cls {c : Nat} {hit small : List Nat} {ms1 : List (List Nat)} (I : HInv dA d R ways told cl ms sz) (P : Part (R := R) (cl := cl) (ms := ms) (sz := sz) c hit small ms1) {r : Nat} (h : r < R) :
    (setAll cl small ms.length).getD r 0 = if r ∈ small then ms.length else cl.getD r 0 := setAll_get (by rw [I.clen]; exact h)
theorem Part.same {c : Nat} {hit small : List Nat} {ms1 : List (List Nat)} (I : HInv dA d R ways told cl ms sz) (P : Part (R := R) (cl := cl) (ms := ms) (sz := sz) c hit small ms1) {p q : Nat} (hp : p < R) (hq : q < R) :
    (setAll cl small ms.length).getD p 0 = (setAll cl small ms.length).getD q 0 ↔ cl.getD p 0 = cl.getD q 0 ∧ (cl.getD p 0 = c → (p ∈ hit ↔ q ∈ hit)) := by
  rw [P.cls I hp, P.cls I hq]
  have a1 := I.clt p hp
  have a2 := I.clt q hq
  by_cases h1 : p ∈ small <;> by_cases h2 : q ∈ small
  · rw [if_pos h1, if_pos h2]
    have e1 := (P.inn p h1).2
    have e2 := (P.inn q h2).2
    refine ⟨fun _ => ⟨by rw [e1, e2], fun _ => (P.iff p q hp hq e1 e2).mp ⟨fun _ => h2, fun _ => h1⟩⟩, fun _ => rfl⟩
  · rw [if_pos h1, if_neg h2]
    have e1 := (P.inn p h1).2
    refine ⟨fun z => by omega, fun z => ?_⟩
    have e2 : cl.getD q 0 = c := by rw [← z.1]; exact e1
    exact absurd (((P.iff p q hp hq e1 e2).mpr (z.2 e1)).mp h1) h2
  · rw [if_neg h1, if_pos h2]
    have e2 := (P.inn q h2).2
    refine ⟨fun z => by omega, fun z => ?_⟩
    have e1 : cl.getD p 0 = c := by rw [z.1]; exact e2
    exact absurd (((P.iff p q hp hq e1 e2).mpr (z.2 e1)).mpr h2) h1
  · rw [if_neg h1, if_neg h2]
    refine ⟨fun z => ⟨z, fun e1 => (P.iff p q hp hq e1 (by rw [← z]; exact e1)).mp ⟨fun y => absurd y h1, fun y => absurd y h2⟩⟩, fun z => z.1⟩
theorem HInv.split (I : HInv dA d R ways told cl ms sz) {c : Nat} (hc : c < ms.length) {hit small : List Nat} {ms1 : List (List Nat)} (P : Part (R := R) (cl := cl) (ms := ms) (sz := sz) c hit small ms1)
    (sat : ∀ p q, p < R → q < R → cl.getD p 0 = c → cl.getD q 0 = c → Eqv dA d ways told p q → (p ∈ hit ↔ q ∈ hit)) :
    HInv dA d R ways told (setAll cl small ms.length) (ms1 ++ [small]) (sz.set c (sz.getD c 0 - small.length) ++ [small.length]) := by
  have hl : (ms1 ++ [small]).length = ms.length + 1 := by rw [List.length_append, P.len]; rfl
  have hcs : c < sz.length := by rw [I.slen]; exact hc
  have cnts : ∀ x, x < ms.length + 1 → cnt R (setAll cl small ms.length) x = if x = ms.length then small.length else if x = c then sz.getD c 0 - small.length else cnt R cl x := by
    intro x hx
    have ec := I.siz c hc
    by_cases e1 : x = ms.length
    · rw [if_pos e1]
      refine Nat.le_antisymm ?_ ?_
      · refine len_of_mem cnt_nd fun r hr => ?_
        obtain ⟨q1, q2⟩ := cnt_mem.mp hr
        rw [P.cls I q1] at q2
        by_cases q : r ∈ small
        · exact q
        · rw [if_neg q] at q2
          have := I.clt r q1
          omega
      · refine len_of_mem P.nd fun r hr => cnt_mem.mpr ⟨(P.inn r hr).1, ?_⟩
        rw [P.cls I (P.inn r hr).1, if_pos hr, e1]
    · rw [if_neg e1]
      by_cases e2 : x = c
      · rw [if_pos e2, ec]
        have hs : small.length + cnt R (setAll cl small ms.length) x = cnt R cl c := by
          refine Nat.le_antisymm ?_ ?_
          · unfold cnt
            rw [← List.length_append]
            refine len_of_mem (List.nodup_append.mpr ⟨P.nd, cnt_nd, fun a ha b hb => ?_⟩) fun r hr => ?_
            · intro eab
              obtain ⟨q1, q2⟩ := cnt_mem.mp hb
              rw [P.cls I q1, ← eab, if_pos ha] at q2
              omega
            · rcases List.mem_append.mp hr with z | z
              · exact cnt_mem.mpr (P.inn r z)
              · obtain ⟨q1, q2⟩ := cnt_mem.mp z
                rw [P.cls I q1] at q2
                by_cases q : r ∈ small
                · rw [if_pos q] at q2; omega
                · rw [if_neg q] at q2
                  exact cnt_mem.mpr ⟨q1, by rw [q2, e2]⟩
          · unfold cnt
            rw [← List.length_append]
            refine len_of_mem cnt_nd fun r hr => ?_
            obtain ⟨q1, q2⟩ := cnt_mem.mp hr
            by_cases q : r ∈ small
            · exact List.mem_append_left _ q
            · refine List.mem_append_right _ (cnt_mem.mpr ⟨q1, ?_⟩)
              rw [P.cls I q1, if_neg q, q2, e2]
        omega
      · rw [if_neg e2]
        unfold cnt
        congr 1
        refine List.filter_congr fun r hr => ?_
        have q1 := List.mem_range.mp hr
        rw [P.cls I q1]
        by_cases q : r ∈ small
        · rw [if_pos q, (P.inn r q).2]
          rw [decide_eq_false (fun z => e1 z.symm), decide_eq_false (fun z => e2 z.symm)]
        · rw [if_neg q]
  have ge : ∀ x, x < ms.length → (ms1 ++ [small]).getD x [] = ms1.getD x [] := fun x hx => getD_snoc_lt (by rw [P.len]; exact hx)
  have gn : (ms1 ++ [small]).getD ms.length [] = small := by rw [← P.len]; exact getD_snoc_eq
  have zn : (sz.set c (sz.getD c 0 - small.length) ++ [small.length]).getD ms.length 0 = small.length := by
    have e : (sz.set c (sz.getD c 0 - small.length)).length = ms.length := by rw [List.length_set, I.slen]
    rw [← e]
    exact getD_snoc_eq
  have zc : (sz.set c (sz.getD c 0 - small.length) ++ [small.length]).getD c 0 = sz.getD c 0 - small.length := by
    rw [getD_snoc_lt (by rw [List.length_set]; exact hcs), getD_lt (by rw [List.length_set]; exact hcs), List.getElem_set_self]
  have ze : ∀ x, x < ms.length → x ≠ c → (sz.set c (sz.getD c 0 - small.length) ++ [small.length]).getD x 0 = sz.getD x 0 := fun x hx hn => by
    rw [getD_snoc_lt (by rw [List.length_set, I.slen]; exact hx), getD_lt (by rw [List.length_set, I.slen]; exact hx), List.getElem_set_ne (fun z => hn z.symm), getD_lt (l := sz) (i := x) (by rw [I.slen]; exact hx)]
  have cases3 : ∀ x, x < (ms1 ++ [small]).length → x = ms.length ∨ (x < ms.length ∧ x = c) ∨ (x < ms.length ∧ x ≠ c) := fun x hx => by
    rw [hl] at hx
    by_cases q : x = ms.length
    · exact .inl q
    · by_cases q2 : x = c
      · exact .inr (.inl ⟨by omega, q2⟩)
      · exact .inr (.inr ⟨by omega, q2⟩)
  refine ⟨by rw [setAll_len, I.clen], ?_, ?_, ?_, ?_, ?_, ?_, ?_, ?_, ?_⟩
  · rw [hl, List.length_append, List.length_set, I.slen]; rfl
  · intro r hr
    rw [P.cls I hr, hl]
    have := I.clt r hr
    split <;> omega
  · intro x hx
    rcases cases3 x hx with e | ⟨h1, e⟩ | ⟨h1, e⟩
    · rw [e, gn]; exact P.nd
    · rw [ge x h1, e]; exact P.mnd
    · rw [ge x h1, P.els x e]; exact I.mnd x h1
  · intro x hx
    rcases cases3 x hx with e | ⟨h1, e⟩ | ⟨h1, e⟩
    · rw [e, gn]; exact fun r hr => (P.inn r hr).1
    · rw [ge x h1, e]; exact P.mlt
    · rw [ge x h1, P.els x e]; exact I.mlt x h1
  · intro r hr
    rw [P.cls I hr]
    by_cases q : r ∈ small
    · rw [if_pos q, gn]; exact q
    · rw [if_neg q, ge _ (I.clt r hr)]
      by_cases e : cl.getD r 0 = c
      · rw [e]; exact P.mem r hr e q
      · rw [P.els _ e]; exact I.mem r hr
  · intro x hx
    rw [cnts x (by rw [hl] at hx; exact hx)]
    rcases cases3 x hx with e | ⟨h1, e⟩ | ⟨h1, e⟩
    · rw [if_pos e, e]; exact zn
    · rw [if_neg (by omega), if_pos e, e]; exact zc
    · rw [if_neg (by omega), if_neg e, ze x h1 e]; exact I.siz x h1
  · intro x hx
    rcases cases3 x hx with e | ⟨h1, e⟩ | ⟨h1, e⟩
    · rw [e, zn]; exact List.length_pos_iff.mpr P.ne
    · rw [e, zc]; have := P.lt; omega
    · rw [ze x h1 e]; exact I.pos x h1
  · intro p q hp hq e
    exact I.ans p q hp hq ((P.same I hp hq).mp e).1
  · intro p q hp hq e
    have e1 := I.eqv p q hp hq e
    exact (P.same I hp hq).mpr ⟨e1, fun h => sat p q hp hq h (by rw [← e1]; exact h) e⟩
/-- what waits tells all that is parted, also behind a split -/
theorem Sep.split {rem rem' : Nat → Nat → Prop} {Y : Nat → Prop} (o : Ok d ways) (hR : R = ways.length) (I : HInv dA d R ways told cl ms sz) (S : Sep d R ways cl wt rem Y) (hw : ∀ x ∈ wt, x < ms.length) {c k : Nat} (hc : c < ms.length) {hit small : List Nat} {ms1 : List (List Nat)}
    (P : Part (R := R) (cl := cl) (ms := ms) (sz := sz) c hit small ms1) (hY : ∀ r, r < R → cl.getD r 0 = c → (r ∈ hit ↔ Y (dl ways r k)))
    (hrem : ∀ a x, rem a x → (a = k ∧ x = c) ∨ (rem' a x ∧ (x = c → rem' a ms.length))) : Sep d R ways (setAll cl small ms.length) (wt ++ [ms.length]) rem' Y := by
  intro p q a hp hq ha e hne
  obtain ⟨e1, e2⟩ := (P.same I hp hq).mp e
  have hdp : dl ways p a < R := by rw [hR]; exact o.dl_lt (by omega)
  have hdq : dl ways q a < R := by rw [hR]; exact o.dl_lt (by omega)
  have new : ms.length ∈ wt ++ [ms.length] := List.mem_append_right _ (List.mem_cons_self ..)
  by_cases h : cl.getD (dl ways p a) 0 = cl.getD (dl ways q a) 0
  · -- the targets' class was split
    have hn : ¬ (cl.getD (dl ways p a) 0 = c → (dl ways p a ∈ hit ↔ dl ways q a ∈ hit)) := fun z => hne ((P.same I hdp hdq).mpr ⟨h, z⟩)
    refine .inl ⟨ms.length, new, fun z => hne ?_⟩
    rw [P.cls I hdp, P.cls I hdq] at z ⊢
    have l1 := I.clt _ hdp
    have l2 := I.clt _ hdq
    by_cases s1 : dl ways p a ∈ small <;> by_cases s2 : dl ways q a ∈ small
    · rw [if_pos s1, if_pos s2]
    · rw [if_pos s1, if_neg s2] at z; have := z.mp rfl; omega
    · rw [if_neg s1, if_pos s2] at z; have := z.mpr rfl; omega
    · rw [if_neg s1, if_neg s2]; exact h
  · rcases S p q a hp hq ha e1 h with ⟨x, hx, hs⟩ | ⟨hr, hs⟩
    · left
      have hxl := hw x hx
      by_cases ex : x = c
      · subst ex
        -- one of the two lies in the class that was split
        have key : ∀ u v, u < R → v < R → cl.getD u 0 = x → cl.getD v 0 ≠ x → ∃ y ∈ wt ++ [ms.length], ((setAll cl small ms.length).getD u 0 = y) ∧ (setAll cl small ms.length).getD v 0 ≠ y := by
          intro u v hu hv q1 q2
          have nv : v ∉ small := fun z => q2 (P.inn v z).2
          by_cases s1 : u ∈ small
          · refine ⟨ms.length, new, ?_, ?_⟩
            · rw [P.cls I hu, if_pos s1]
            · rw [P.cls I hv, if_neg nv]; have := I.clt v hv; omega
          · refine ⟨x, List.mem_append_left _ hx, ?_, ?_⟩
            · rw [P.cls I hu, if_neg s1]; exact q1
            · rw [P.cls I hv, if_neg nv]; exact q2
        by_cases q1 : cl.getD (dl ways p a) 0 = x
        · have q2 : cl.getD (dl ways q a) 0 ≠ x := fun z => h (q1.trans z.symm)
          obtain ⟨y, hy, y1, y2⟩ := key _ _ hdp hdq q1 q2
          exact ⟨y, hy, fun z => y2 (z.mp y1)⟩
        · have q2 : cl.getD (dl ways q a) 0 = x := by
            by_cases q2 : cl.getD (dl ways q a) 0 = x
            · exact q2
            · exact absurd ⟨fun z => absurd z q1, fun z => absurd z q2⟩ hs
          obtain ⟨y, hy, y1, y2⟩ := key _ _ hdq hdp q2 q1
          exact ⟨y, hy, fun z => y2 (z.mpr y1)⟩
      · have tr : ∀ u, u < R → ((setAll cl small ms.length).getD u 0 = x ↔ cl.getD u 0 = x) := fun u hu => by
          rw [P.cls I hu]
          by_cases s1 : u ∈ small
          · rw [if_pos s1, (P.inn u s1).2]
            exact ⟨fun z => by omega, fun z => absurd z.symm ex⟩
          · rw [if_neg s1]
        refine ⟨x, List.mem_append_left _ hx, fun z => hs ?_⟩
        rw [tr _ hdp, tr _ hdq] at z
        exact z
    · rcases hrem a _ hr with ⟨ea, ec⟩ | ⟨hr', hr''⟩
      · exfalso
        subst ea
        refine hs ?_
        rw [← hY p hp ec, ← hY q hq (by rw [← e1]; exact ec)]
        exact e2 ec
      · refine .inr ⟨?_, hs⟩
        rw [P.cls I hp]
        split
        · rename_i s1
          exact hr'' (P.inn p s1).2
        · exact hr'
/-- what is still to come may shrink where it parts nothing -/
theorem Sep.mono {rem rem' : Nat → Nat → Prop} {Y : Nat → Prop} (S : Sep d R ways cl wt rem Y)
    (h : ∀ p q a, p < R → q < R → cl.getD p 0 = cl.getD q 0 → rem a (cl.getD p 0) → ¬ (Y (dl ways p a) ↔ Y (dl ways q a)) → rem' a (cl.getD p 0)) : Sep d R ways cl wt rem' Y := by
  intro p q a hp hq ha e hne
  rcases S p q a hp hq ha e hne with z | ⟨z1, z2⟩
  · exact .inl z
  · exact .inr ⟨h p q a hp hq e z1 z2, z2⟩
/-- nothing waits: the classes are alike -/
theorem HInv.alike {Y : Nat → Prop} (hR : R = ways.length) (o : Ok d ways) (I : HInv dA d R ways told cl ms sz) (S : Sep d R ways cl [] (fun _ _ => False) Y) : Alike dA d ways told cl := by
  subst hR
  refine ⟨I.clen, I.ans, fun p q hp hq e a ha => ?_, I.eqv⟩
  by_cases h : cl.getD (dl ways p a) 0 = cl.getD (dl ways q a) 0
  · exact h
  · rcases S p q a hp hq ha e h with ⟨x, hx, _⟩ | ⟨z, _⟩
    · cases hx
    · exact z.elim
/-- rooms that no text parts have such targets -/
theorem Eqv.step {p q a : Nat} (e : Eqv dA d ways told p q) (ha : a < d) : Eqv dA d ways told (dl ways p a) (dl ways q a) := fun w hw => e (a :: w) fun b hb => by
  rcases List.mem_cons.mp hb with h | h
  · rw [h]; exact ha
  · exact hw b h
/-- not more classes than rooms -/
theorem HInv.few (I : HInv dA d R ways told cl ms sz) : ms.length ≤ R := by
  have h : ∀ c, c < ms.length → ∃ r, r < R ∧ cl.getD r 0 = c := fun c hc => by
    have h1 := I.pos c hc
    rw [I.siz c hc] at h1
    obtain ⟨r, hr⟩ := List.exists_mem_of_length_pos h1
    exact ⟨r, cnt_mem.mp hr⟩
  have h2 := len_of_mem (a := List.range ms.length) (b := (List.range R).map fun r => cl.getD r 0) List.nodup_range fun c hc => by
    obtain ⟨r, h3, h4⟩ := h c (List.mem_range.mp hc)
    exact List.mem_map.mpr ⟨r, List.mem_range.mpr h3, h4⟩
  rw [List.length_range, List.length_map, List.length_range] at h2
  exact h2
end
end Mch

namespace Own
open PySem PySem.Spec PyProof.Rows L2 SX RZ
/-! ### whole numbers as values -/
abbrev iv (n : Nat) : V := .int (n : Int)
abbrev ivs (l : List Nat) : List V := l.map iv
/-! ### subscripts of lists and tuples, the written part named -/
section
variable {X : Cx} {K : PySem.W.Frag}
theorem ixL (h : X.K = K) : IxR X (rIxL K) := by subst h; exact ix_list
theorem ixT (h : X.K = K) : IxR X (rIxT K) := by subst h; exact ix_tup
end
section
variable {K : PySem.W.Frag} {H : Hp} {a : Addr} {xs : List V} {i : Nat} {v : V} {Q : VK}
theorem sqL (h : H a = some (.lst xs)) : SqL K H a xs := .inl (.inl h)
theorem sqT (h : H a = some (.tup xs)) : SqT K H a xs := .inl (.inl h)
end
/-! ### comprehensions that only make -/
section
variable {J : It} {n : Nat} {G : Hp → Prop} {Y : Nat → Hp → V → Hp → Prop} {g : TG} {tt : TT} {te : TE} {vs : List Nat} {σ : L2.St} {H1 : Hp} {D : Addr} {Qd : Hp → Prop}
end
/-! ### a test that changes nothing -/
theorem if_pick {t : TT} {T E : TS} {D : Ends} {σ : L2.St} {H : Hp} (cond : Prop) (fin1 : cond → T D σ H) (fin2 : ¬ cond → E D σ H) (h : ∀ k : Bool → Hp → Prop, (cond → k true H) → (¬ cond → k false H) → t σ H k) : tIfS t T E D σ H :=
  h _ (fun c => fin1 c) (fun c => fin2 c)
/-! ### set(list of whole numbers); k not in it -/
section
variable {X : Cx} {K : PySem.W.Frag}
end
/-! ### dicts by any kind of key -/
section
variable {P : Program} {w : World} {κ : Type} [DecidableEq κ]
end
section
variable {X : Cx} {κ : Type} [DecidableEq κ] {P : Program} {w : World} {knd : PySem.KeyKind P w κ} {enc : κ → V} {pins : List (Addr × Obj)} {σ : L2.St} {H : Hp} {s : Shared} {a : Addr} {kvs : List (κ × V)}
end
end Own

namespace Mch
/-! ### the classes at the beginning -/
section
variable {κ : Type} [DecidableEq κ] {dA : κ} {d : Nat} {ways : List (List Nat)} {ks : List κ}
end
end Mch

namespace Mch
section
variable {α β : Type} [DecidableEq α] [DecidableEq β] {f : α → β} (hf : ∀ a b, f a = f b → a = b)
include hf
end
theorem idxOf_take {l : List Nat} {i : Nat} (hi : i < l.length) (h : l[i] ∉ l.take i) : l.idxOf l[i] = i := by
  have e : l = l.take i ++ (l[i] :: l.drop (i + 1)) := by rw [← List.drop_eq_getElem_cons hi, List.take_append_drop]
  have e2 : l.idxOf l[i] = (l.take i ++ (l[i] :: l.drop (i + 1))).idxOf l[i] := congrArg (fun m => m.idxOf l[i]) e
  rw [e2, List.idxOf_append, if_neg h, List.idxOf_cons_self, List.length_take]
  omega
theorem first_step {l : List Nat} {i : Nat} (hi : i < l.length) : ((numb l).getD i 0 = (nubA [] (l.take i)).length ↔ l.getD i 0 ∉ nubA [] (l.take i)) ∧
    nubA [] (l.take (i + 1)) = (if l.getD i 0 ∈ nubA [] (l.take i) then nubA [] (l.take i) else nubA [] (l.take i) ++ [l.getD i 0]) ∧ (l.getD i 0 ∉ nubA [] (l.take i) → l.idxOf (l.getD i 0) = i) := by
  have hg : l.getD i 0 = l[i] := getD_lt hi
  have et : l.take (i + 1) = l.take i ++ [l[i]] := by rw [List.take_add_one, List.getElem?_eq_getElem hi]; rfl
  have en : nubA [] (l.take (i + 1)) = (if l[i] ∈ nubA [] (l.take i) then nubA [] (l.take i) else nubA [] (l.take i) ++ [l[i]]) := by
    rw [et, nubA_app]
    rfl
  have pre : ∃ r, nubA [] l = nubA [] (l.take (i + 1)) ++ r := by
    have e : nubA [] l = nubA (nubA [] (l.take (i + 1))) (l.drop (i + 1)) := by rw [← nubA_app, List.take_append_drop]
    rw [e]
    exact nubA_pre
  obtain ⟨r, hr⟩ := pre
  have hmem : l[i] ∈ nubA [] (l.take (i + 1)) := nub_mem.mpr (by rw [et]; exact List.mem_append_right _ (List.mem_cons_self ..))
  rw [numb_at hi, hg, hr, idxOf_pre hmem, en]
  refine ⟨?_, rfl, fun h => idxOf_take hi fun z => h (nub_mem.mpr z)⟩
  by_cases h : l[i] ∈ nubA [] (l.take i)
  · rw [if_pos h]
    have := idxOf_lt h
    exact ⟨fun z => by omega, fun z => absurd h z⟩
  · rw [if_neg h, List.idxOf_append, if_neg h, List.idxOf_cons_self]
    exact ⟨fun _ => h, fun _ => by omega⟩
end Mch

namespace Mch
/-! ### counts of texts -/
end Mch

namespace Mch
/-! ### rooms numbered by the texts that lead to them; machines that are least are equal if their answers are -/
/-- behind a room named for the first time all lesser ones are known; each room is named by an earlier one -/
structure Canon (d : Nat) (W : List (List Nat)) : Prop where
  low : ∀ c p y, c < W.length → p < d → y < dl W c p → y = 0 ∨ ∃ c' p', (c' < c ∨ (c' = c ∧ p' < p)) ∧ p' < d ∧ dl W c' p' = y
  src : ∀ j, 0 < j → j < W.length → ∃ i p, i < j ∧ p < d ∧ dl W i p = j
def Redu {A : Type} (dA : A) (d : Nat) (W : List (List Nat)) (T : List A) : Prop := ∀ r q, r < W.length → q < W.length → (∀ w, (∀ a ∈ w, a < d) → T.getD (wk W r w) dA = T.getD (wk W q w) dA) → r = q
section
variable {A : Type} {dA : A} {d : Nat} {W W' : List (List Nat)} {T T' : List A}
/-- rooms that one text leads to -/
def Rl (d : Nat) (W W' : List (List Nat)) (r s : Nat) : Prop := ∃ w, (∀ a ∈ w, a < d) ∧ wk W 0 w = r ∧ wk W' 0 w = s
theorem app_lt {d : Nat} {u v : List Nat} (h1 : ∀ a ∈ u, a < d) (h2 : ∀ a ∈ v, a < d) : ∀ a ∈ u ++ v, a < d := fun a ha => by
  rcases List.mem_append.mp ha with z | z
  · exact h1 a z
  · exact h2 a z
theorem Rl.fut {r s : Nat} (same : ∀ w, (∀ a ∈ w, a < d) → T.getD (wk W 0 w) dA = T'.getD (wk W' 0 w) dA) (h : Rl d W W' r s) : ∀ v, (∀ a ∈ v, a < d) → T.getD (wk W r v) dA = T'.getD (wk W' s v) dA := fun v hv => by
  obtain ⟨w, w1, w2, w3⟩ := h
  have := same (w ++ v) (app_lt w1 hv)
  rw [wk_app, wk_app, w2, w3] at this
  exact this
theorem Rl.fn {r s s' : Nat} (o' : Ok d W') (red' : Redu dA d W' T') (same : ∀ w, (∀ a ∈ w, a < d) → T.getD (wk W 0 w) dA = T'.getD (wk W' 0 w) dA) (h : Rl d W W' r s) (h' : Rl d W W' r s') : s = s' := by
  have f1 := h.fut same
  have f2 := h'.fut same
  obtain ⟨w, _, _, w3⟩ := h
  obtain ⟨w', _, _, w3'⟩ := h'
  exact red' s s' (by rw [← w3]; exact o'.wk_lt o'.pos) (by rw [← w3']; exact o'.wk_lt o'.pos) fun v hv => (f1 v hv).symm.trans (f2 v hv)
theorem Rl.inj {r r' s : Nat} (o : Ok d W) (red : Redu dA d W T) (same : ∀ w, (∀ a ∈ w, a < d) → T.getD (wk W 0 w) dA = T'.getD (wk W' 0 w) dA) (h : Rl d W W' r s) (h' : Rl d W W' r' s) : r = r' := by
  have f1 := h.fut same
  have f2 := h'.fut same
  obtain ⟨w, _, w2, _⟩ := h
  obtain ⟨w', _, w2', _⟩ := h'
  exact red r r' (by rw [← w2]; exact o.wk_lt o.pos) (by rw [← w2']; exact o.wk_lt o.pos) fun v hv => (f1 v hv).trans (f2 v hv).symm
theorem Rl.step {r s p : Nat} (h : Rl d W W' r s) (hp : p < d) : Rl d W W' (dl W r p) (dl W' s p) := by
  obtain ⟨w, w1, w2, w3⟩ := h
  refine ⟨w ++ [p], app_lt w1 (fun a ha => by rw [List.mem_singleton.mp ha]; exact hp), ?_, ?_⟩
  · rw [wk_app, w2]; rfl
  · rw [wk_app, w3]; rfl
/-- each room goes with the room of the same number -/
theorem Rl.self (o : Ok d W) (o' : Ok d W') (c : Canon d W) (c' : Canon d W') (red : Redu dA d W T) (red' : Redu dA d W' T') (same : ∀ w, (∀ a ∈ w, a < d) → T.getD (wk W 0 w) dA = T'.getD (wk W' 0 w) dA) :
    ∀ k, k < W.length → Rl d W W' k k := by
  intro k
  induction k using Nat.strongRecOn with
  | ind k ih =>
    intro hk
    by_cases h0 : k = 0
    · subst h0
      exact ⟨[], fun _ h => (List.not_mem_nil h).elim, rfl, rfl⟩
    · have aux : ∀ N i p, i * d + p = N → i < k → p < d → dl W i p = k → Rl d W W' k k := by
        intro N
        induction N using Nat.strongRecOn with
        | ind N ihN =>
          intro i p hN hi hp e
          have hs := (ih i hi (by omega)).step hp
          rw [e] at hs
          -- the room that goes with k
          by_cases hm : dl W' i p = k
          · rw [hm] at hs; exact hs
          · have il' : i < W'.length := by
              obtain ⟨w, _, _, w3⟩ := ih i hi (by omega)
              rw [← w3]
              exact o'.wk_lt o'.pos
            have ge : k < dl W' i p := by
              by_cases z : dl W' i p < k
              · have h2 := ih (dl W' i p) z (by omega)
                exact absurd (Rl.inj o red same h2 hs) (by omega)
              · omega
            rcases c'.low i p k il' hp ge with z | ⟨i', p', z1, z2, z3⟩
            · exact absurd z h0
            · have hi' : i' < k := by rcases z1 with z | z <;> omega
              have hs' := (ih i' hi' (by omega)).step z2
              rw [z3] at hs'
              have lt1 : i' * d + p' < i * d + p := by
                rcases z1 with z | ⟨z, z'⟩
                · have : (i' + 1) * d ≤ i * d := Nat.mul_le_mul_right d z
                  rw [Nat.add_mul, Nat.one_mul] at this
                  omega
                · rw [z]; omega
              by_cases u1 : dl W i' p' < k
              · have h2 := ih _ u1 (by omega)
                have := Rl.fn o' red' same h2 hs'
                omega
              · by_cases u2 : dl W i' p' = k
                · rw [u2] at hs'; exact hs'
                · rcases c.low i' p' k (by omega) z2 (by omega) with y | ⟨i2, p2, y1, y2, y3⟩
                  · exact absurd y h0
                  · have hi2 : i2 < k := by rcases y1 with z | z <;> omega
                    have lt2 : i2 * d + p2 < i' * d + p' := by
                      rcases y1 with z | ⟨z, z'⟩
                      · have : (i2 + 1) * d ≤ i' * d := Nat.mul_le_mul_right d z
                        rw [Nat.add_mul, Nat.one_mul] at this
                        omega
                      · rw [z]; omega
                    exact ihN (i2 * d + p2) (by omega) i2 p2 rfl hi2 y2 y3
      obtain ⟨i, p, h1, h2, h3⟩ := c.src k (by omega) hk
      exact aux _ i p rfl h1 h2 h3
theorem len_le (o : Ok d W) (o' : Ok d W') (c : Canon d W) (c' : Canon d W') (red : Redu dA d W T) (red' : Redu dA d W' T') (same : ∀ w, (∀ a ∈ w, a < d) → T.getD (wk W 0 w) dA = T'.getD (wk W' 0 w) dA) : W.length ≤ W'.length := by
  have hp := o.pos
  obtain ⟨w, _, _, w3⟩ := Rl.self o o' c c' red red' same (W.length - 1) (by omega)
  have := o'.wk_lt (w := w) o'.pos
  omega
/-- least machines with the same answers are the same -/
theorem uniq (o : Ok d W) (o' : Ok d W') (c : Canon d W) (c' : Canon d W') (red : Redu dA d W T) (red' : Redu dA d W' T') (hT : T.length = W.length) (hT' : T'.length = W'.length)
    (same : ∀ w, (∀ a ∈ w, a < d) → T.getD (wk W 0 w) dA = T'.getD (wk W' 0 w) dA) : W = W' ∧ T = T' := by
  have l1 := len_le o o' c c' red red' same
  have l2 := len_le o' o c' c red' red fun w hw => (same w hw).symm
  have self := Rl.self o o' c c' red red' same
  constructor
  · refine List.ext_getElem (by omega) fun i h1 h2 => ?_
    refine List.ext_getElem (by rw [o.row _ (List.getElem_mem h1), o'.row _ (List.getElem_mem h2)]) fun p q1 q2 => ?_
    have hp : p < d := by rw [← o.row _ (List.getElem_mem h1)]; exact q1
    have e1 : dl W i p = W[i][p] := by rw [dl_eq, show rowOf W i = W[i] from getD_lt h1, getD_lt q1]
    have e2 : dl W' i p = W'[i][p] := by rw [dl_eq, show rowOf W' i = W'[i] from getD_lt h2, getD_lt q2]
    have s1 := (self i h1).step hp
    have s2 := self (dl W i p) (o.dl_lt h1)
    rw [← e1, ← e2]
    exact Rl.fn o' red' same s2 s1
  · refine List.ext_getElem (by omega) fun i h1 h2 => ?_
    have := (self i (by omega)).fut same [] (fun _ h => (List.not_mem_nil h).elim)
    have e1 : T.getD i dA = T[i] := getD_lt h1
    have e2 : T'.getD i dA = T'[i] := getD_lt h2
    rw [← e1, ← e2]
    exact this
end
/-! ### the least machine is so -/
section
variable {A : Type} {dA : A} {d : Nat} {ways : List (List Nat)} {told : List A} {l : List Nat}
theorem first_of {c : Nat} (h : c < (nubA [] l).length) : l.idxOf (nubA [] l)[c] < l.length ∧ (numb l).getD (l.idxOf (nubA [] l)[c]) 0 = c := by
  have hm : (nubA [] l)[c] ∈ nubA [] l := List.getElem_mem h
  obtain ⟨h1, h2⟩ := first_lt hm
  refine ⟨h1, ?_⟩
  rw [numb_at h1, h2]
  exact idxOf_of_get (nubA_nodup List.nodup_nil) (List.getElem?_eq_getElem h)
/-- no room of a class stands before its first one -/
theorem first_le {r : Nat} (h : r < l.length) (hc : (numb l).getD r 0 < (nubA [] l).length) : l.idxOf (nubA [] l)[(numb l).getD r 0] ≤ r := by
  have e : (nubA [] l)[(numb l).getD r 0] = l.getD r 0 := by
    have hm : l.getD r 0 ∈ nubA [] l := nub_mem.mpr (by rw [getD_lt h]; exact List.getElem_mem h)
    have q := idxOf_get hm
    rw [← numb_at h] at q
    exact (List.getElem?_eq_some_iff.mp q).2
  rw [e, getD_lt h]
  by_cases z : l.idxOf l[r] ≤ r
  · exact z
  · have hz : r < l.idxOf l[r] := by omega
    have h2 : (l[r] == l[r]) = false := List.not_of_lt_findIdx (p := fun x => x == l[r]) hz
    rw [beq_self_eq_true] at h2
    cases h2
/-- classes are numbered by their first rooms -/
theorem first_mono {c c' : Nat} (h : c < (nubA [] l).length) (h' : c' < (nubA [] l).length) : l.idxOf (nubA [] l)[c] < l.idxOf (nubA [] l)[c'] ↔ c < c' := by
  have key : ∀ i, i < l.length → (numb l).getD i 0 ≤ (nubA [] (l.take i)).length := fun i hi => by
    obtain ⟨s1, s2, _⟩ := first_step hi
    by_cases z : l.getD i 0 ∈ nubA [] (l.take i)
    · rw [numb_at hi]
      have pre : ∃ r, nubA [] l = nubA [] (l.take i) ++ r := by
        have e : nubA [] l = nubA (nubA [] (l.take i)) (l.drop i) := by rw [← nubA_app, List.take_append_drop]
        rw [e]
        exact nubA_pre
      obtain ⟨r, hr⟩ := pre
      rw [hr, idxOf_pre z]
      have := idxOf_lt z
      omega
    · have := s1.mpr z
      omega
  have mono : ∀ i j, i ≤ j → (nubA [] (l.take i)).length ≤ (nubA [] (l.take j)).length := fun i j hij => by
    have e : l.take j = l.take i ++ (l.take j).drop i := by
      have := List.take_append_drop i (l.take j)
      rw [List.take_take, Nat.min_eq_left hij] at this
      exact this.symm
    rw [e, nubA_app]
    exact nubA_le
  have at_first : ∀ c (h : c < (nubA [] l).length), (nubA [] (l.take (l.idxOf (nubA [] l)[c]))).length = c := fun c h => by
    obtain ⟨h1, h2⟩ := first_of h
    obtain ⟨s1, _, _⟩ := first_step h1
    have hn : l.getD (l.idxOf (nubA [] l)[c]) 0 ∉ nubA [] (l.take (l.idxOf (nubA [] l)[c])) := fun z => by
      have z' := nub_mem.mp z
      rw [getD_lt h1] at z'
      obtain ⟨j, hj⟩ := List.mem_iff_getElem?.mp z'
      rw [List.getElem?_take] at hj
      by_cases hji : j < l.idxOf (nubA [] l)[c]
      · rw [if_pos hji] at hj
        have e1 : l[l.idxOf (nubA [] l)[c]] = (nubA [] l)[c] := List.getElem_idxOf _
        rw [e1] at hj
        have e2 := (List.getElem?_eq_some_iff.mp hj).2
        have h3 : (l[j]'(by omega) == (nubA [] l)[c]) = false := List.not_of_lt_findIdx (p := fun x => x == (nubA [] l)[c]) hji
        rw [e2, beq_self_eq_true] at h3
        cases h3
      · rw [if_neg hji] at hj
        cases hj
    have := s1.mpr hn
    rw [h2] at this
    exact this.symm
  have a1 := at_first c h
  have a2 := at_first c' h'
  constructor
  · intro z
    have m := mono _ _ (Nat.le_of_lt z)
    rw [a1, a2] at m
    by_cases e : c = c'
    · subst e; omega
    · omega
  · intro z
    by_cases y : l.idxOf (nubA [] l)[c'] ≤ l.idxOf (nubA [] l)[c]
    · have m := mono _ _ y
      rw [a1, a2] at m
      omega
    · omega
theorem least_canon (o : Ok d ways) (a : Alike dA d ways told l) (cn : Canon d ways) : Canon d (leastW ways l) := by
  have hl := a.len
  have hln : (leastW ways l).length = (nubA [] l).length := leastW_len
  -- a room and its class
  have tr : ∀ r p, r < ways.length → p < d → dl (leastW ways l) ((numb l).getD r 0) p = (numb l).getD (dl ways r p) 0 := fun r p hr hp => least_dl o a hr hp
  have cl : ∀ r, r < ways.length → (numb l).getD r 0 < (nubA [] l).length := fun r hr => numb_lt (by omega)
  refine ⟨fun c p y hc hp hy => ?_, fun j j0 hj => ?_⟩
  · rw [hln] at hc
    obtain ⟨f1, f2⟩ := first_of (l := l) hc
    have hr : l.idxOf (nubA [] l)[c] < ways.length := by omega
    have e := tr _ p hr hp
    rw [f2] at e
    rw [e] at hy
    have ht := o.dl_lt (p := p) hr
    have hcl := cl _ ht
    have hyl : y < (nubA [] l).length := by omega
    obtain ⟨g1, g2⟩ := first_of (l := l) hyl
    -- y's first room is below the target
    have lt1 : l.idxOf (nubA [] l)[y] < dl ways (l.idxOf (nubA [] l)[c]) p := Nat.lt_of_lt_of_le ((first_mono hyl hcl).mpr hy) (first_le (by omega) hcl)
    rcases cn.low _ p _ hr hp lt1 with z | ⟨i, p', z1, z2, z3⟩
    · left
      rw [z] at g2
      rw [numb_zero (by omega)] at g2
      exact g2.symm
    · have hi : i < ways.length := by rcases z1 with z | z <;> omega
      have e2 := tr i p' hi z2
      rw [z3, g2] at e2
      refine .inr ⟨(numb l).getD i 0, p', ?_, z2, e2⟩
      rcases z1 with z | ⟨z, z'⟩
      · left
        have hci := cl i hi
        exact (first_mono hci hc).mp (Nat.lt_of_le_of_lt (first_le (by omega) hci) z)
      · right
        rw [z]
        exact ⟨f2, z'⟩
  · rw [hln] at hj
    obtain ⟨f1, f2⟩ := first_of (l := l) hj
    have f0 : 0 < l.idxOf (nubA [] l)[j] := by
      have h00 : 0 < (nubA [] l).length := by omega
      have := (first_mono h00 hj).mpr j0
      omega
    obtain ⟨i, p, h1, h2, h3⟩ := cn.src _ f0 (by omega)
    have e := tr i p (by omega) h2
    rw [h3, f2] at e
    have hci := cl i (by omega)
    exact ⟨_, p, (first_mono hci hj).mp (Nat.lt_of_le_of_lt (first_le (by omega) hci) h1), h2, e⟩
theorem least_redu (o : Ok d ways) (a : Alike dA d ways told l) : Redu dA d (leastW ways l) (leastT dA told l) := by
  have hl := a.len
  have hln : (leastW ways l).length = (nubA [] l).length := leastW_len
  intro r q hr hq h
  rw [hln] at hr hq
  obtain ⟨f1, f2⟩ := first_of (l := l) hr
  obtain ⟨g1, g2⟩ := first_of (l := l) hq
  have e := a.eqv _ _ (by omega : l.idxOf (nubA [] l)[r] < ways.length) (by omega : l.idxOf (nubA [] l)[q] < ways.length) fun w hw => by
    have := h w hw
    have w1 := least_wk o a (w := w) (r := l.idxOf (nubA [] l)[r]) (by omega) hw
    have w2 := least_wk o a (w := w) (r := l.idxOf (nubA [] l)[q]) (by omega) hw
    rw [f2] at w1
    rw [g2] at w2
    rw [w1, w2, least_told o a (o.wk_lt (by omega)), least_told o a (o.wk_lt (by omega))] at this
    exact this
  have n1 := numb_at (l := l) f1
  have n2 := numb_at (l := l) g1
  rw [f2] at n1
  rw [g2] at n2
  rw [n1, n2, e]
end
section
variable {d : Nat} {rows : List (List Nat)} {order : List Nat}
theorem nub_pre {x : Nat} {pre post : List Nat} : ∃ r, nubA [0] (pre ++ x :: post) = nubA [0] (pre ++ [x]) ++ r := by
  have e : pre ++ x :: post = (pre ++ [x]) ++ post := by simp
  rw [e, nubA_app]
  exact nubA_pre
theorem pre_known {order u r : List Nat} {x xy t y : Nat} (nd : order.Nodup) (hq : order = (if x ∈ u then u else u ++ [x]) ++ r) (gt : order[t]? = some x) (gy : order[y]? = some xy) (hy : y < t) : xy ∈ u := by
  subst hq
  have i1 := idxOf_of_get nd gt
  by_cases z : x ∈ u
  · rw [if_pos z] at i1 gy
    rw [idxOf_pre z] at i1
    have i3 := idxOf_lt z
    rw [List.getElem?_append_left (by omega)] at gy
    exact List.mem_of_getElem? gy
  · rw [if_neg z] at i1 gy
    rw [idxOf_pre (by simp), List.idxOf_append, if_neg z] at i1
    have i4 : [x].idxOf x = 0 := by simp
    rw [List.append_assoc, List.getElem?_append_left (by omega)] at gy
    exact List.mem_of_getElem? gy
theorem reach_canon (o : Ok d rows) (h : Reach rows order) : Canon d (waysOf rows order) := by
  have nd := h.nd
  have hlen : (waysOf rows order).length = order.length := waysOf_len
  -- a step, by the room's own number
  have back : ∀ c p y, c < order.length → p < d → y < order.length → dl rows (order.getD c 0) p = order.getD y 0 → dl (waysOf rows order) c p = y := fun c p y hc hp hy e => by
    obtain ⟨h1, h2⟩ := reach_dl o h hc hp
    rw [e] at h2
    rw [getD_lt h1, getD_lt hy] at h2
    have i1 := idxOf_of_get nd (List.getElem?_eq_getElem h1)
    have i2 := idxOf_of_get nd (List.getElem?_eq_getElem hy)
    rw [h2] at i1
    omega
  have inrow : ∀ c y, c < order.length → order.getD y 0 ∈ rowOf rows (order.getD c 0) → ∃ p, p < d ∧ dl rows (order.getD c 0) p = order.getD y 0 := fun c y hc hm => by
    obtain ⟨p, hp, e⟩ := List.mem_iff_getElem.mp hm
    have hl := rowOf_len o (h.lt o _ (List.getElem_mem hc))
    rw [← getD_lt (d := 0) hc] at hl
    exact ⟨p, by omega, by rw [dl_eq, getD_lt hp]; exact e⟩
  refine ⟨fun c p y hc hp hy => ?_, fun j j0 hj => ?_⟩
  · rw [hlen] at hc
    obtain ⟨t1, t2⟩ := reach_dl o h hc hp
    have hrl := rowOf_len o (h.lt o _ (List.getElem_mem hc))
    rw [← getD_lt (d := 0) hc] at hrl
    generalize ht : dl (waysOf rows order) c p = t at hy t1 t2
    have hpl : p < (rowOf rows (order.getD c 0)).length := by omega
    have ex : (rowOf rows (order.getD c 0))[p] = order.getD t 0 := by rw [t2, dl_eq, getD_lt hpl]
    have er : rowOf rows (order.getD c 0) = (rowOf rows (order.getD c 0)).take p ++ (order.getD t 0 :: (rowOf rows (order.getD c 0)).drop (p + 1)) := by
      rw [← ex, ← List.drop_eq_getElem_cons hpl, List.take_append_drop]
    have eo : order = order.take c ++ (order.getD c 0 :: order.drop (c + 1)) := by
      rw [getD_lt hc, ← List.drop_eq_getElem_cons hc, List.take_append_drop]
    have eL : order.flatMap (rowOf rows) = ((order.take c).flatMap (rowOf rows) ++ (rowOf rows (order.getD c 0)).take p) ++ (order.getD t 0 :: ((rowOf rows (order.getD c 0)).drop (p + 1) ++ (order.drop (c + 1)).flatMap (rowOf rows))) := by
      have e1 : order.flatMap (rowOf rows) = (order.take c).flatMap (rowOf rows) ++ (rowOf rows (order.getD c 0) ++ (order.drop (c + 1)).flatMap (rowOf rows)) := by
        conv => lhs; rw [eo]
        rw [List.flatMap_append, List.flatMap_cons]
      rw [e1]
      conv => lhs; rw [er]
      simp
    generalize hpre : (order.take c).flatMap (rowOf rows) ++ (rowOf rows (order.getD c 0)).take p = pre at eL
    have hq := h.eq
    rw [eL] at hq
    obtain ⟨r, hr⟩ := nub_pre (x := order.getD t 0) (pre := pre) (post := (rowOf rows (order.getD c 0)).drop (p + 1) ++ (order.drop (c + 1)).flatMap (rowOf rows))
    rw [hr, nubA_app] at hq
    have eu : nubA (nubA [0] pre) [order.getD t 0] = if order.getD t 0 ∈ nubA [0] pre then nubA [0] pre else nubA [0] pre ++ [order.getD t 0] := rfl
    rw [eu] at hq
    -- y's room is known before
    have hyu : order.getD y 0 ∈ nubA [0] pre := pre_known nd hq (by rw [getD_lt t1]; exact List.getElem?_eq_getElem t1) (by rw [getD_lt (by omega)]; exact List.getElem?_eq_getElem (by omega)) hy
    have hyl : y < order.length := by omega
    rcases nubA_mem.mp hyu with z | z
    · left
      have z0 := List.mem_singleton.mp z
      have g0 : order.getD 0 0 = 0 := by obtain ⟨r, e⟩ := h.pre; rw [e]; rfl
      have hp0 : 0 < order.length := by omega
      have i1 := idxOf_of_get nd (List.getElem?_eq_getElem hyl)
      have i2 := idxOf_of_get nd (List.getElem?_eq_getElem hp0)
      rw [← getD_lt (d := 0) hyl, z0] at i1
      rw [← getD_lt (d := 0) hp0, g0] at i2
      omega
    · right
      rw [← hpre] at z
      rcases List.mem_append.mp z with z | z
      · obtain ⟨q, hq1, hq2⟩ := List.mem_flatMap.mp z
        obtain ⟨c', hc'⟩ := List.mem_iff_getElem?.mp hq1
        rw [List.getElem?_take] at hc'
        by_cases hcc : c' < c
        · rw [if_pos hcc] at hc'
          have eq' : order.getD c' 0 = q := by rw [List.getD_eq_getElem?_getD, hc']; rfl
          rw [← eq'] at hq2
          obtain ⟨p', p1, p2⟩ := inrow c' y (by omega) hq2
          exact ⟨c', p', .inl hcc, p1, back c' p' y (by omega) p1 hyl p2⟩
        · rw [if_neg hcc] at hc'
          cases hc'
      · obtain ⟨p', hp'⟩ := List.mem_iff_getElem?.mp z
        rw [List.getElem?_take] at hp'
        by_cases hpp : p' < p
        · rw [if_pos hpp] at hp'
          refine ⟨c, p', .inr ⟨rfl, hpp⟩, by omega, back c p' y hc (by omega) hyl ?_⟩
          rw [dl_eq, List.getD_eq_getElem?_getD, hp']
          rfl
        · rw [if_neg hpp] at hp'
          cases hp'
  · rw [hlen] at hj
    have hrun := h.run j hj
    have pre : ∃ r, order = nubA [0] ((order.take j).flatMap (rowOf rows)) ++ r := by
      have e : order.flatMap (rowOf rows) = (order.take j).flatMap (rowOf rows) ++ (order.drop j).flatMap (rowOf rows) := by rw [← List.flatMap_append, List.take_append_drop]
      have hq := h.eq
      rw [e, nubA_app] at hq
      obtain ⟨r, hr⟩ := nubA_pre (l := (order.drop j).flatMap (rowOf rows)) (acc := nubA [0] ((order.take j).flatMap (rowOf rows)))
      exact ⟨r, hq.trans hr⟩
    obtain ⟨r, hr⟩ := pre
    have gj : order[j]? = some (order.getD j 0) := by rw [getD_lt hj]; exact List.getElem?_eq_getElem hj
    have hm : order.getD j 0 ∈ nubA [0] ((order.take j).flatMap (rowOf rows)) := by
      have gj' : (nubA [0] ((order.take j).flatMap (rowOf rows)) ++ r)[j]? = some (order.getD j 0) := by rw [← hr]; exact gj
      rw [List.getElem?_append_left hrun] at gj'
      exact List.mem_of_getElem? gj'
    rcases nubA_mem.mp hm with z | z
    · have z0 := List.mem_singleton.mp z
      have g0 : order.getD 0 0 = 0 := by obtain ⟨r, e⟩ := h.pre; rw [e]; rfl
      have hp0 : 0 < order.length := by omega
      have i1 := idxOf_of_get nd gj
      have i2 := idxOf_of_get nd (List.getElem?_eq_getElem hp0)
      rw [z0] at i1
      rw [← getD_lt (d := 0) hp0, g0] at i2
      omega
    · obtain ⟨q, hq1, hq2⟩ := List.mem_flatMap.mp z
      obtain ⟨c', hc'⟩ := List.mem_iff_getElem?.mp hq1
      rw [List.getElem?_take] at hc'
      by_cases hcc : c' < j
      · rw [if_pos hcc] at hc'
        have eq' : order.getD c' 0 = q := by rw [List.getD_eq_getElem?_getD, hc']; rfl
        rw [← eq'] at hq2
        obtain ⟨p', p1, p2⟩ := inrow c' j (by omega) hq2
        exact ⟨c', p', hcc, p1, back c' p' j (by omega) p1 hj p2⟩
      · rw [if_neg hcc] at hc'
        cases hc'
end
/-- the least machine: numbered by its texts, no two rooms alike -/
theorem Least.canon {A : Type} {dA : A} {d : Nat} {rows W : List (List Nat)} {ans T : List A} (o : Ok d rows) (h : Least dA d rows ans W T) : Canon d W ∧ Redu dA d W T := by
  obtain ⟨order, l, hr, ha, rfl, rfl⟩ := h
  exact ⟨least_canon (waysOf_ok o hr) ha (reach_canon o hr), least_redu (waysOf_ok o hr) ha⟩
/-- machines that answer alike are the same -/
theorem Least.uniq {A : Type} {dA : A} {d : Nat} {rows rows' W W' : List (List Nat)} {ans ans' T T' : List A} (o : Ok d rows) (o' : Ok d rows') (h : Least dA d rows ans W T) (h' : Least dA d rows' ans' W' T')
    (same : ∀ w, (∀ a ∈ w, a < d) → ans.getD (wk rows 0 w) dA = ans'.getD (wk rows' 0 w) dA) : W = W' ∧ T = T' := by
  obtain ⟨c, r⟩ := h.canon o
  obtain ⟨c', r'⟩ := h'.canon o'
  obtain ⟨ok, lt, _⟩ := h.ok o
  obtain ⟨ok', lt', _⟩ := h'.ok o'
  exact Mch.uniq ok ok' c c' r r' lt lt' fun w hw => by rw [h.same o hw, h'.same o' hw]; exact same w hw
end Mch

namespace Mch
/-! ### short texts tell machines apart (Moore) -/
section
variable {A : Type}
theorem countP_eq {α : Type} {p q : α → Bool} : ∀ {l : List α}, (∀ x ∈ l, p x = true → q x = true) → l.countP p ≤ l.countP q ∧ (l.countP q ≤ l.countP p → ∀ x ∈ l, q x = true → p x = true)
  | [], _ => ⟨Nat.le_refl _, fun _ x h => (List.not_mem_nil h).elim⟩
  | y :: l, h => by
    obtain ⟨i1, i2⟩ := countP_eq (l := l) fun x hx => h x (List.mem_cons_of_mem _ hx)
    have hy := h y (List.mem_cons_self ..)
    rw [List.countP_cons, List.countP_cons]
    cases hp : p y <;> cases hq : q y
    · refine ⟨by simpa using i1, fun e x hx qx => ?_⟩
      rcases List.mem_cons.mp hx with z | z
      · rw [z, hq] at qx; cases qx
      · exact i2 (by simpa using e) x z qx
    · refine ⟨by simp; omega, fun e => ?_⟩
      simp at e
      omega
    · rw [hp, hq] at hy
      exact absurd (hy rfl) (by decide)
    · refine ⟨by simpa using i1, fun e x hx qx => ?_⟩
      rcases List.mem_cons.mp hx with z | z
      · rw [z]; exact hp
      · exact i2 (by simpa using e) x z qx
def go (f : Nat → Nat → Nat) : Nat → List Nat → Nat
  | r, [] => r
  | r, p :: w => go f (f r p) w
/-- alike for texts of at most k letters -/
def Ek (d : Nat) (f : Nat → Nat → Nat) (out : Nat → A) (k r q : Nat) : Prop := ∀ w, w.length ≤ k → (∀ a ∈ w, a < d) → out (go f r w) = out (go f q w)
variable {d N : Nat} {f : Nat → Nat → Nat} {out : Nat → A}
theorem Ek.symm {k r q : Nat} (h : Ek d f out k r q) : Ek d f out k q r := fun w a b => (h w a b).symm
theorem Ek.trans {k r q s : Nat} (h : Ek d f out k r q) (h' : Ek d f out k q s) : Ek d f out k r s := fun w a b => (h w a b).trans (h' w a b)
theorem Ek.refl {k r : Nat} : Ek d f out k r r := fun _ _ _ => rfl
theorem Ek.down {k j r q : Nat} (h : Ek d f out k r q) (hj : j ≤ k) : Ek d f out j r q := fun w a b => h w (by omega) b
theorem Ek.step {k r q p : Nat} (h : Ek d f out (k + 1) r q) (hp : p < d) : Ek d f out k (f r p) (f q p) := fun w a b =>
  h (p :: w) (by rw [List.length_cons]; omega) fun x hx => by
    rcases List.mem_cons.mp hx with z | z
    · rw [z]; exact hp
    · exact b x z
/-- what does not grow finer once never does -/
theorem Ek.stable {k : Nat} (hf : ∀ r p, r < N → f r p < N) (st : ∀ r q, r < N → q < N → Ek d f out k r q → Ek d f out (k + 1) r q) :
    ∀ w r q, r < N → q < N → (∀ a ∈ w, a < d) → Ek d f out k r q → out (go f r w) = out (go f q w)
  | [], r, q, _, _, _, h => h [] (Nat.zero_le _) (fun _ h => (List.not_mem_nil h).elim)
  | p :: w, r, q, hr, hq, hw, h => Ek.stable hf st w (f r p) (f q p) (hf r p hr) (hf q p hq) (fun a ha => hw a (List.mem_cons_of_mem _ ha)) ((st r q hr hq h).step (hw p (List.mem_cons_self ..)))
open Classical in
noncomputable def isF (d : Nat) (f : Nat → Nat → Nat) (out : Nat → A) (k r : Nat) : Bool := decide (∀ q, q < r → ¬ Ek d f out k r q)
open Classical in
theorem isF_iff {k r : Nat} : isF d f out k r = true ↔ ∀ q, q < r → ¬ Ek d f out k r q := by
  unfold isF
  exact decide_eq_true_iff
theorem isF_up {k r : Nat} (h : isF d f out k r = true) : isF d f out (k + 1) r = true := isF_iff.mpr fun q hq e => isF_iff.mp h q hq (e.down (by omega))
theorem to_first {k : Nat} : ∀ r, ∃ r', r' ≤ r ∧ Ek d f out k r r' ∧ isF d f out k r' = true := by
  intro r
  induction r using Nat.strongRecOn with
  | ind r ih =>
    by_cases h : isF d f out k r = true
    · exact ⟨r, Nat.le_refl _, Ek.refl, h⟩
    · have : ∃ q, q < r ∧ Ek d f out k r q := by
        apply Classical.byContradiction
        intro z
        exact h (isF_iff.mpr fun q hq e => z ⟨q, hq, e⟩)
      obtain ⟨q, q1, q2⟩ := this
      obtain ⟨r', a, b, c⟩ := ih q q1
      exact ⟨r', by omega, q2.trans b, c⟩
theorem isF_eq {k r q : Nat} (hr : isF d f out k r = true) (hq : isF d f out k q = true) (h : Ek d f out k r q) : r = q := by
  by_cases z : q < r
  · exact absurd h (isF_iff.mp hr q z)
  · by_cases z' : r < q
    · exact absurd h.symm (isF_iff.mp hq r z')
    · omega
noncomputable def cls (N d : Nat) (f : Nat → Nat → Nat) (out : Nat → A) (k : Nat) : Nat := (List.range N).countP (isF d f out k)
theorem cls_step (k : Nat) : cls N d f out k < cls N d f out (k + 1) ∨ ∀ r q, r < N → q < N → Ek d f out k r q → Ek d f out (k + 1) r q := by
  by_cases h : cls N d f out k < cls N d f out (k + 1)
  · exact .inl h
  · right
    have hh := (countP_eq (l := List.range N) (p := isF d f out k) (q := isF d f out (k + 1)) fun x _ hx => isF_up hx).2 (by unfold cls at h; omega)
    intro r q hr hq e
    obtain ⟨r', r1, r2, r3⟩ := to_first (d := d) (f := f) (out := out) (k := k + 1) r
    obtain ⟨q', q1, q2, q3⟩ := to_first (d := d) (f := f) (out := out) (k := k + 1) q
    have fr := hh r' (List.mem_range.mpr (by omega)) r3
    have fq := hh q' (List.mem_range.mpr (by omega)) q3
    have := isF_eq fr fq (((r2.down (Nat.le_succ k)).symm.trans e).trans (q2.down (Nat.le_succ k)))
    rw [this] at r2
    exact r2.trans q2.symm
theorem cls_all {k : Nat} (h : N ≤ cls N d f out k) {r q : Nat} (hr : r < N) (hq : q < N) (e : Ek d f out k r q) : r = q := by
  have hh := (countP_eq (l := List.range N) (p := isF d f out k) (q := fun _ => true) fun _ _ _ => rfl).2 (by
    rw [List.countP_true, List.length_range]
    exact h)
  exact isF_eq (hh r (List.mem_range.mpr hr) rfl) (hh q (List.mem_range.mpr hq) rfl) e
theorem moore_aux (hf : ∀ r p, r < N → f r p < N) : ∀ k, (∀ w r q, r < N → q < N → (∀ a ∈ w, a < d) → Ek d f out k r q → out (go f r w) = out (go f q w)) ∨ k + 1 ≤ cls N d f out k ∨ N = 0
  | 0 => by
    by_cases z : N = 0
    · exact .inr (.inr z)
    · refine .inr (.inl ?_)
      unfold cls
      refine List.countP_pos_iff.mpr ⟨0, List.mem_range.mpr (by omega), isF_iff.mpr fun q hq => absurd hq (Nat.not_lt_zero _)⟩
  | k + 1 => by
    rcases moore_aux hf k with h | h | h
    · exact .inl fun w r q hr hq hw e => h w r q hr hq hw (e.down (Nat.le_succ k))
    · rcases cls_step (N := N) (d := d) (f := f) (out := out) k with s | s
      · exact .inr (.inl (by omega))
      · refine .inl fun w r q hr hq hw e => Ek.stable hf s w r q hr hq hw (e.down (Nat.le_succ k))
    · exact .inr (.inr h)
/-- rooms that texts of fewer letters than there are rooms do not tell apart, no text does -/
theorem moore (hf : ∀ r p, r < N → f r p < N) {k : Nat} (hk : N ≤ k + 1) : ∀ w r q, r < N → q < N → (∀ a ∈ w, a < d) → Ek d f out k r q → out (go f r w) = out (go f q w) := by
  intro w r q hr hq hw e
  rcases moore_aux (out := out) (d := d) hf k with h | h | h
  · exact h w r q hr hq hw e
  · rw [cls_all (by omega) hr hq e]
  · omega
end
section
variable {A : Type} {dA : A} {d : Nat} {R R' : List (List Nat)} {S S' : List A}
def two (R R' : List (List Nat)) (r p : Nat) : Nat := if r < R.length then dl R r p else R.length + dl R' (r - R.length) p
def twoT (dA : A) (n : Nat) (S S' : List A) (r : Nat) : A := if r < n then S.getD r dA else S'.getD (r - n) dA
theorem two_fst (o : Ok d R) : ∀ (w : List Nat) (r : Nat), r < R.length → go (two R R') r w = wk R r w
  | [], _, _ => rfl
  | p :: w, r, h => by
    show go (two R R') (two R R' r p) w = wk R (dl R r p) w
    rw [show two R R' r p = dl R r p from if_pos h]
    exact two_fst o w _ (o.dl_lt h)
theorem two_snd : ∀ (w : List Nat) (r : Nat), go (two R R') (R.length + r) w = R.length + wk R' r w
  | [], _ => rfl
  | p :: w, r => by
    show go (two R R') (two R R' (R.length + r) p) w = R.length + wk R' (dl R' r p) w
    rw [show two R R' (R.length + r) p = R.length + dl R' r p by
      unfold two
      rw [if_neg (by omega), Nat.add_sub_cancel_left]]
    exact two_snd w _
/-- two machines that texts of at most k letters do not tell apart answer every text alike -/
theorem short (o : Ok d R) (o' : Ok d R') {k : Nat} (hk : R.length + R'.length ≤ k + 1)
    (h : ∀ w, w.length ≤ k → (∀ a ∈ w, a < d) → S.getD (wk R 0 w) dA = S'.getD (wk R' 0 w) dA) :
    ∀ w, (∀ a ∈ w, a < d) → S.getD (wk R 0 w) dA = S'.getD (wk R' 0 w) dA := by
  have e1 : ∀ w, twoT dA R.length S S' (go (two R R') 0 w) = S.getD (wk R 0 w) dA := fun w => by
    rw [two_fst o w 0 o.pos]
    exact if_pos (o.wk_lt o.pos)
  have e2 : ∀ w, twoT dA R.length S S' (go (two R R') (R.length + 0) w) = S'.getD (wk R' 0 w) dA := fun w => by
    rw [two_snd w 0]
    unfold twoT
    rw [if_neg (by omega), Nat.add_sub_cancel_left]
  have hp := o.pos
  have hp' := o'.pos
  intro w hw
  rw [← e1 w, ← e2 w]
  refine moore (N := R.length + R'.length) (d := d) (fun r p hr => ?_) hk w 0 (R.length + 0) (by omega) (by omega) hw fun v hv hv' => ?_
  · unfold two
    split
    · rename_i hl
      have := o.dl_lt (p := p) hl
      omega
    · have := o'.dl_lt (r := r - R.length) (p := p) (by omega)
      omega
  · rw [e1 v, e2 v]
    exact h v hv hv'
end
end Mch

namespace Mch
/-! ### a machine looked at from outside: its rooms in order, its rooms apart -/
/-- the numbers 0, 1, .. as far as they go -/
structure Dense (m : List Nat) (N : Nat) : Prop where
  lt : ∀ x ∈ m, x < N
  on : ∀ y, y < N → y ∈ m
section
variable {κ : Type} [DecidableEq κ]
theorem nubG_mem {l : List κ} {x : κ} : x ∈ nubA [] l ↔ x ∈ l := by
  rw [nubA_mem]
  simp
theorem numbG_at {l : List κ} {i : Nat} {x : κ} (h : l[i]? = some x) : (numb l)[i]? = some ((nubA [] l).idxOf x) := by
  unfold numb
  rw [List.getElem?_map, h]
  rfl
theorem numb_dense {l : List κ} : Dense (numb l) (nubA [] l).length := by
  refine ⟨fun x hx => ?_, fun y hy => ?_⟩
  · obtain ⟨z, hz, e⟩ := List.mem_map.mp hx
    rw [← e]
    exact idxOf_lt (nubG_mem.mpr hz)
  · have hm : (nubA [] l)[y] ∈ l := nubG_mem.mp (List.getElem_mem hy)
    refine List.mem_map.mpr ⟨_, hm, ?_⟩
    exact idxOf_of_get (nubA_nodup List.nodup_nil) (List.getElem?_eq_getElem hy)
theorem numb_eq {l : List κ} {i j : Nat} {x y : κ} (hi : l[i]? = some x) (hj : l[j]? = some y) : (numb l)[i]? = (numb l)[j]? ↔ x = y := by
  rw [numbG_at hi, numbG_at hj]
  constructor
  · intro e
    have mx := nubG_mem.mpr (List.mem_of_getElem? hi)
    have my := nubG_mem.mpr (List.mem_of_getElem? hj)
    have e' := Option.some.inj e
    have gx := idxOf_get mx
    rw [e', idxOf_get my] at gx
    exact (Option.some.inj gx).symm
  · rintro rfl
    rfl
end
theorem Dense.le {m : List Nat} {N : Nat} (h : Dense m N) : N ≤ m.length := by
  have nd : ((List.range N).map m.idxOf).Nodup := by
    rw [List.nodup_iff_pairwise_ne, List.pairwise_map]
    refine List.Pairwise.imp_of_mem (fun {a b} ha hb ne e => ne ?_) (List.nodup_iff_pairwise_ne.mp List.nodup_range)
    have ga := idxOf_get (h.on a (List.mem_range.mp ha))
    have gb := idxOf_get (h.on b (List.mem_range.mp hb))
    rw [e] at ga
    exact Option.some.inj (ga.symm.trans gb)
  have := nodup_len nd fun x hx => by
    obtain ⟨y, hy, e⟩ := List.mem_map.mp hx
    rw [← e]
    exact idxOf_lt (h.on y (List.mem_range.mp hy))
  simpa using this
/-- a finer numbering has no fewer numbers; with as many it is the same -/
theorem Dense.finer {m m' : List Nat} {N N' : Nat} (h : Dense m N) (h' : Dense m' N') (hl : m'.length = m.length)
    (f : ∀ r q, r < m.length → q < m.length → m'.getD r 0 = m'.getD q 0 → m.getD r 0 = m.getD q 0) :
    N ≤ N' ∧ (N' ≤ N → ∀ r q, r < m.length → q < m.length → m.getD r 0 = m.getD q 0 → m'.getD r 0 = m'.getD q 0) := by
  have hi : ∀ y, y < N → m.idxOf y < m.length ∧ m.getD (m.idxOf y) 0 = y := fun y hy => by
    have l1 := idxOf_lt (h.on y hy)
    exact ⟨l1, by rw [getD_lt l1, List.getElem_idxOf]⟩
  have lt' : ∀ r, r < m.length → m'.getD r 0 < N' := fun r hr => by
    rw [getD_lt (by omega)]
    exact h'.lt _ (List.getElem_mem _)
  have nd : ((List.range N).map fun y => m'.getD (m.idxOf y) 0).Nodup := by
    rw [List.nodup_iff_pairwise_ne, List.pairwise_map]
    refine List.Pairwise.imp_of_mem (fun {a b} ha hb ne e => ne ?_) (List.nodup_iff_pairwise_ne.mp List.nodup_range)
    obtain ⟨a1, a2⟩ := hi a (List.mem_range.mp ha)
    obtain ⟨b1, b2⟩ := hi b (List.mem_range.mp hb)
    have := f _ _ a1 b1 e
    rw [a2, b2] at this
    exact this
  have sub : ∀ x ∈ (List.range N).map fun y => m'.getD (m.idxOf y) 0, x < N' := fun x hx => by
    obtain ⟨y, hy, e⟩ := List.mem_map.mp hx
    rw [← e]
    exact lt' _ (hi y (List.mem_range.mp hy)).1
  have len1 : N ≤ N' := by simpa using nodup_len nd sub
  refine ⟨len1, fun hle => ?_⟩
  have one : ∀ r, r < m.length → m'.getD r 0 = m'.getD (m.idxOf (m.getD r 0)) 0 := fun r hr => by
    by_cases z : m'.getD r 0 ∈ (List.range N).map fun y => m'.getD (m.idxOf y) 0
    · obtain ⟨y, hy, e⟩ := List.mem_map.mp z
      obtain ⟨y1, y2⟩ := hi y (List.mem_range.mp hy)
      have := f r _ hr y1 e.symm
      rw [y2] at this
      rw [this]
      exact e.symm
    · have nd2 : (((List.range N).map fun y => m'.getD (m.idxOf y) 0) ++ [m'.getD r 0]).Nodup := by
        rw [List.nodup_append]
        refine ⟨nd, by simp, fun a ha b hb => ?_⟩
        rw [List.mem_singleton.mp hb]
        exact fun e => z (e ▸ ha)
      have := nodup_len nd2 fun x hx => by
        rcases List.mem_append.mp hx with y | y
        · exact sub x y
        · rw [List.mem_singleton.mp y]
          exact lt' r hr
      simp at this
      omega
  intro r q hr hq e
  rw [one r hr, one q hq, e]
theorem dense_inj {m : List Nat} {N : Nat} (h : Dense m N) (inj : ∀ r q, r < m.length → q < m.length → m.getD r 0 = m.getD q 0 → r = q) : m.length ≤ N := by
  have nd : m.Nodup := by
    rw [List.nodup_iff_pairwise_ne, List.pairwise_iff_getElem]
    intro i j hi hj hij e
    have := inj i j hi hj (by rw [getD_lt hi, getD_lt hj, e])
    omega
  exact nodup_len nd h.lt
/-! ### finer and finer -/
def finerL (W : List (List Nat)) (m : List Nat) : List (List Nat) := W.map fun row => row.map fun t => m.getD t 0
/-- the numbers of a turn, the count before -/
structure Ref {A : Type} (dA : A) (W : List (List Nat)) (T : List A) (i : Nat) (m : List Nat) (c N : Nat) : Prop where
  len : m.length = W.length
  den : Dense m N
  ans : ∀ r q, r < W.length → q < W.length → m.getD r 0 = m.getD q 0 → T.getD r dA = T.getD q dA
  at_ : (c < N ∧ i < N) ∨ (c = N ∧ N = W.length)
section
variable {A : Type} {dA : A} {d : Nat} {W : List (List Nat)} {T : List A}
theorem numb_length {κ : Type} [DecidableEq κ] {l : List κ} : (numb l).length = l.length := List.length_map ..
theorem getD_of_some {α : Type} {l : List α} {i : Nat} {x d : α} (h : l[i]? = some x) : l.getD i d = x := by
  rw [List.getD_eq_getElem?_getD, h]; rfl
theorem some_getD {α : Type} {l : List α} {i : Nat} {d : α} (h : i < l.length) : l[i]? = some (l.getD i d) := by
  rw [getD_lt h, List.getElem?_eq_getElem h]
theorem numb_iff {κ : Type} [DecidableEq κ] {l : List κ} {i j : Nat} {x y : κ} (hi : l[i]? = some x) (hj : l[j]? = some y) : (numb l).getD i 0 = (numb l).getD j 0 ↔ x = y := by
  rw [← numb_eq hi hj, getD_of_some (numbG_at hi), getD_of_some (numbG_at hj), numbG_at hi, numbG_at hj, Option.some.injEq]
theorem Ref.start [DecidableEq A] (hT : T.length = W.length) (hp : 0 < W.length) : Ref dA W T 0 (numb T) 0 (nubA [] T).length := by
  have h0 : 0 < (nubA [] T).length := by
    have : T.getD 0 dA ∈ nubA [] T := nubG_mem.mpr (by rw [getD_lt (by omega)]; exact List.getElem_mem _)
    exact List.length_pos_of_mem this
  refine ⟨by rw [numb_length, hT], numb_dense, fun r q hr hq e => ?_, .inl ⟨h0, h0⟩⟩
  exact (numb_iff (some_getD (by omega)) (some_getD (by omega))).mp e
theorem Ref.skip {i c N : Nat} {m : List Nat} (R : Ref dA W T i m c N) (h : ¬ c < N) : Ref dA W T (i + 1) m c N :=
  ⟨R.len, R.den, R.ans, .inr (R.at_.resolve_left fun z => h z.1)⟩
theorem Ref.step (o : Ok d W) (red : Redu dA d W T) {i c N : Nat} {m : List Nat} (R : Ref dA W T i m c N) (h : c < N) :
    Ref dA W T (i + 1) (numb (m.zip (finerL W m))) N (nubA [] (m.zip (finerL W m))).length := by
  have hl := R.len
  have lf : (finerL W m).length = W.length := List.length_map ..
  have lz : (m.zip (finerL W m)).length = W.length := by
    rw [List.length_zip, lf, hl, Nat.min_self]
  have gz : ∀ r, r < W.length → (m.zip (finerL W m))[r]? = some (m.getD r 0, (rowOf W r).map fun t => m.getD t 0) := fun r hr => by
    rw [List.getElem?_zip_eq_some]
    refine ⟨some_getD (by omega), ?_⟩
    unfold finerL rowOf
    rw [List.getElem?_map, some_getD (d := []) hr]
    rfl
  have iff : ∀ r q, r < W.length → q < W.length → ((numb (m.zip (finerL W m))).getD r 0 = (numb (m.zip (finerL W m))).getD q 0 ↔
      m.getD r 0 = m.getD q 0 ∧ ((rowOf W r).map fun t => m.getD t 0) = (rowOf W q).map fun t => m.getD t 0) := fun r q hr hq => by
    rw [numb_iff (gz r hr) (gz q hq), Prod.mk.injEq]
  have iN : i < N := by
    rcases R.at_ with z | z
    · exact z.2
    · omega
  have dn := numb_dense (l := m.zip (finerL W m))
  obtain ⟨f1, f2⟩ := R.den.finer dn (by rw [numb_length, lz, hl]) fun r q hr hq e => ((iff r q (by omega) (by omega)).mp e).1
  refine ⟨by rw [numb_length, lz], dn, fun r q hr hq e => R.ans r q hr hq ((iff r q hr hq).mp e).1, ?_⟩
  by_cases z : (nubA [] (m.zip (finerL W m))).length ≤ N
  · right
    have st := f2 z
    -- nothing grew finer
    have go : ∀ (w : List Nat) (r q : Nat), r < W.length → q < W.length → (∀ a ∈ w, a < d) → m.getD r 0 = m.getD q 0 → T.getD (wk W r w) dA = T.getD (wk W q w) dA := by
      intro w
      induction w with
      | nil => intro r q hr hq _ e; exact R.ans r q hr hq e
      | cons p w ih =>
        intro r q hr hq hw e
        have hp := hw p (List.mem_cons_self ..)
        have e2 := ((iff r q hr hq).mp (st r q (by omega) (by omega) e)).2
        refine ih (dl W r p) (dl W q p) (o.dl_lt hr) (o.dl_lt hq) (fun a ha => hw a (List.mem_cons_of_mem _ ha)) ?_
        have g : ∀ x, x < W.length → ((rowOf W x).map fun t => m.getD t 0)[p]? = some (m.getD (dl W x p) 0) := fun x hx => by
          have lx := rowOf_len o hx
          rw [List.getElem?_map, some_getD (d := 0) (by omega)]
          rfl
        have := g r hr
        rw [e2, g q hq] at this
        exact (Option.some.inj this).symm
    have inj : ∀ r q, r < m.length → q < m.length → m.getD r 0 = m.getD q 0 → r = q := fun r q hr hq e => red r q (by omega) (by omega) fun w hw => go w r q (by omega) (by omega) hw e
    have n1 := dense_inj R.den inj
    have n2 := R.den.le
    have : N = (nubA [] (m.zip (finerL W m))).length := by omega
    exact ⟨this, by omega⟩
  · left
    omega
theorem Ref.done {c N : Nat} {m : List Nat} (R : Ref dA W T W.length m c N) : N = W.length := by
  have h1 := R.den.le
  have h2 := R.len
  rcases R.at_ with z | z <;> omega
/-! ### rooms in the order of their texts -/
end
end Mch

namespace Own
open PySem PySem.Spec PyProof.Rows L2 SX RZ
/-! ### dicts by keys that are tuples of any depth: what lies at the dict's own place; the keys' tuples are told apart -/
section
variable {P : Program} {w : World} {κ : Type} [DecidableEq κ]
end
section
variable {X : Cx} {κ : Type} [DecidableEq κ] {P : Program} {w : World} {knd : PySem.HeapKind P w κ} {kin : Hp → κ → Addr → Prop} {pins : List (Addr × Obj)} {σ : L2.St} {H : Hp} {s : Shared} {a : Addr} {kvs : List (κ × Addr × V)}
end
/-! ### a number and a tuple of numbers, as a key -/
def nkOf (k : Nat × List Nat) : NestedKey := .tup [.num k.1, .tup (k.2.map fun (n : Nat) => .num n)]
def kinN (H : Hp) (k : NestedKey) (b : Addr) : Prop := ∃ (m : Nat) (l : List Nat) (c : Addr), k = nkOf (m, l) ∧ H b = some (.tup [iv m, .ref c]) ∧ H c = some (.tup (ivs l))
theorem kinN.same {H H' : Hp} {k : NestedKey} {b : Addr} (h : kinN H k b) (s : Same H H') : kinN H' k b := by
  obtain ⟨m, l, c, e, h1, h2⟩ := h
  exact ⟨m, l, c, e, s _ _ h1, s _ _ h2⟩
end Own

namespace Own
open PySem PySem.Spec PyProof.Rows L2 SX RZ
/-! ### answers that are truths or texts, as keys -/
end Own

namespace Own
open PySem PySem.Spec PyProof.Rows L2 SX RZ
/-! ### dicts by any kind of key: displays, get with a default, compared -/
section
variable {X : Cx} {κ : Type} [DecidableEq κ] {P : Program} {w : World} {knd : PySem.KeyKind P w κ} {enc : κ → V} {pins : List (Addr × Obj)} {σ : L2.St} {H : Hp} {s : Shared} {a : Addr} {kvs : List (κ × V)}
end
end Own

namespace Own
open PySem PySem.Spec PyProof.Rows L2 SX RZ
/-! ### calls with keywords alone: of a def, of a classmethod -/
section
variable {X : Cx} {CX : CXT} {k n : Nat} {f C p g : Addr} {mc : Value} {fd : FuncData} {ps ks : List Str} {sp : Sp} {E : XK} {x m : Str} {np pos apos : Pos} {o : Expr} {kws : List Keyword} {ta : TE} {tk : TA} {gg : List Value → List Value → List Value} {gV : List V → List V → List V} {pl : Sem Bool}
end
end Own

namespace Own
open PySem PySem.Spec PyProof.Rows L2 SX
/-! ### a & b, a | b, ~a by an own class's dunders -/
section
variable {X : Cx} {CX : CXT} {n : Nat} {C f : Addr} {fd : FuncData} {ps : List Str} {sp : Sp} {E : XK}
end
end Own

namespace Mch
/-! ### the machine of one text -/
section
variable {gs xs : List Nat}
variable {W : List (List Nat)} {T : List Bool}
end
end Mch

namespace Mch
/-! ### two machines side by side -/
/-- the pairs found so far and the rows of the first ones -/
structure Prs (d : Nat) (W V : List (List Nat)) (pairs : List (Nat × Nat)) (made : List (List Nat)) : Prop where
  nd : pairs.Nodup
  zero : pairs[0]? = some (0, 0)
  lt : ∀ p ∈ pairs, p.1 < W.length ∧ p.2 < V.length
  le : made.length ≤ pairs.length
  row : ∀ (i : Nat) (r : List Nat) (p : Nat × Nat), made[i]? = some r → pairs[i]? = some p → r.length = d ∧ ∀ a, a < d → pairs[r.getD a 0]? = some (dl W p.1 a, dl V p.2 a)
section
variable {d : Nat} {W V : List (List Nat)} {pairs : List (Nat × Nat)} {made : List (List Nat)}
theorem Prs.start (oW : Ok d W) (oV : Ok d V) : Prs d W V [(0, 0)] [] :=
  ⟨by simp, rfl, fun p hp => by rw [List.mem_singleton.mp hp]; exact ⟨oW.pos, oV.pos⟩, by simp, fun i r p h => by simp at h⟩
theorem prod_nodup {n m : Nat} {l : List (Nat × Nat)} (nd : l.Nodup) (h : ∀ p ∈ l, p.1 < n ∧ p.2 < m) : l.length ≤ n * m := by
  have hinj : ∀ p ∈ l, ∀ q ∈ l, p.1 * m + p.2 = q.1 * m + q.2 → p = q := by
    intro p hp q hq e
    have h1 := (h p hp).2
    have h2 := (h q hq).2
    have m0 : 0 < m := by omega
    have e1 : p.1 = q.1 := by
      have a1 : (p.1 * m + p.2) / m = p.1 := by rw [Nat.add_comm, Nat.add_mul_div_right _ _ m0, Nat.div_eq_of_lt h1, Nat.zero_add]
      have a2 : (q.1 * m + q.2) / m = q.1 := by rw [Nat.add_comm, Nat.add_mul_div_right _ _ m0, Nat.div_eq_of_lt h2, Nat.zero_add]
      rw [← a1, ← a2, e]
    have e2 : p.2 = q.2 := by rw [e1] at e; omega
    exact Prod.ext e1 e2
  have nd2 : (l.map fun p => p.1 * m + p.2).Nodup := by
    refine List.pairwise_map.mpr (List.Pairwise.imp_of_mem ?_ nd)
    intro p q hp hq ne e
    exact ne (hinj p hp q hq e)
  have := nodup_len nd2 (n := n * m) fun x hx => by
    obtain ⟨p, hp, rfl⟩ := List.mem_map.mp hx
    obtain ⟨h1, h2⟩ := h p hp
    have : (p.1 + 1) * m ≤ n * m := Nat.mul_le_mul_right m h1
    rw [Nat.succ_mul] at this
    omega
  rw [List.length_map] at this
  exact this
theorem Prs.few (h : Prs d W V pairs made) : pairs.length ≤ W.length * V.length := prod_nodup h.nd h.lt
/-- a pair that is new -/
theorem Prs.more (h : Prs d W V pairs made) {p : Nat × Nat} (hn : p ∉ pairs) (hp : p.1 < W.length ∧ p.2 < V.length) : Prs d W V (pairs ++ [p]) made := by
  refine ⟨?_, ?_, ?_, ?_, ?_⟩
  · refine List.nodup_append.mpr ⟨h.nd, by simp, fun x hx y hy e => ?_⟩
    rw [List.mem_singleton.mp hy] at e
    exact hn (e ▸ hx)
  · have := (List.getElem?_eq_some_iff.mp h.zero).1
    rw [List.getElem?_append_left this]
    exact h.zero
  · intro q hq
    rcases List.mem_append.mp hq with z | z
    · exact h.lt q z
    · rw [List.mem_singleton.mp z]; exact hp
  · rw [List.length_append]; have := h.le; omega
  · intro i r q hr hq
    have hi : i < pairs.length := Nat.lt_of_lt_of_le (List.getElem?_eq_some_iff.mp hr).1 h.le
    rw [List.getElem?_append_left hi] at hq
    obtain ⟨h1, h2⟩ := h.row i r q hr hq
    refine ⟨h1, fun a ha => ?_⟩
    have := h2 a ha
    rw [List.getElem?_append_left (List.getElem?_eq_some_iff.mp this).1]
    exact this
/-- a row is done -/
theorem Prs.done (h : Prs d W V pairs made) {p : Nat × Nat} {r : List Nat} (hp : pairs[made.length]? = some p) (hr : r.length = d) (hg : ∀ a, a < d → pairs[r.getD a 0]? = some (dl W p.1 a, dl V p.2 a)) : Prs d W V pairs (made ++ [r]) := by
  refine ⟨h.nd, h.zero, h.lt, by rw [List.length_append]; exact (List.getElem?_eq_some_iff.mp hp).1, fun i r' q hr' hq => ?_⟩
  by_cases hi : i < made.length
  · rw [List.getElem?_append_left hi] at hr'
    exact h.row i r' q hr' hq
  · have hl := (List.getElem?_eq_some_iff.mp hr').1
    rw [List.length_append] at hl
    have e1 : [r].length = 1 := rfl
    have ei : i = made.length := by omega
    subst ei
    rw [List.getElem?_append_right (Nat.le_refl _), Nat.sub_self] at hr'
    cases hr'
    rw [hp] at hq
    cases hq
    exact ⟨hr, hg⟩
/-- all rows are done -/
theorem Prs.ok (h : Prs d W V pairs made) (e : made.length = pairs.length) : Ok d made := by
  have h0 := (List.getElem?_eq_some_iff.mp h.zero).1
  refine ⟨by omega, fun x hx => ?_, fun x hx t ht => ?_⟩
  · obtain ⟨i, hi⟩ := List.mem_iff_getElem?.mp hx
    have hl := (List.getElem?_eq_some_iff.mp hi).1
    exact (h.row i x _ hi (List.getElem?_eq_getElem (by omega))).1
  · obtain ⟨i, hi⟩ := List.mem_iff_getElem?.mp hx
    have hl := (List.getElem?_eq_some_iff.mp hi).1
    obtain ⟨h1, h2⟩ := h.row i x _ hi (List.getElem?_eq_getElem (by omega))
    obtain ⟨a, ha⟩ := List.mem_iff_getElem?.mp ht
    have hal := (List.getElem?_eq_some_iff.mp ha).1
    have h3 := h2 a (by omega)
    rw [List.getD_eq_getElem?_getD, ha] at h3
    have := (List.getElem?_eq_some_iff.mp h3).1
    rw [e]
    exact this
theorem Prs.walk (h : Prs d W V pairs made) (e : made.length = pairs.length) : ∀ {w : List Nat} {i : Nat} {p : Nat × Nat}, (∀ a ∈ w, a < d) → pairs[i]? = some p → pairs[wk made i w]? = some (wk W p.1 w, wk V p.2 w)
  | [], _, _, _, hp => hp
  | a :: w, i, p, hw, hp => by
    have hi := (List.getElem?_eq_some_iff.mp hp).1
    have hr : made[i]? = some made[i] := List.getElem?_eq_getElem (by omega)
    obtain ⟨_, h2⟩ := h.row i _ p hr hp
    have h3 := h2 a (hw a (List.mem_cons_self ..))
    have ed : dl made i a = made[i].getD a 0 := by
      rw [dl_eq, show rowOf made i = made[i] by
        unfold rowOf
        rw [List.getD_eq_getElem?_getD, hr]
        rfl]
    show pairs[Mch.wk made (dl made i a) w]? = _
    rw [ed]
    exact Prs.walk h e (p := (dl W p.1 a, dl V p.2 a)) (fun b hb => hw b (List.mem_cons_of_mem _ hb)) h3
/-- the answers of the pairs -/
theorem Prs.answer {κ : Type} {dA : κ} {g : Nat × Nat → κ} (h : Prs d W V pairs made) (e : made.length = pairs.length) {w : List Nat} (hw : ∀ a ∈ w, a < d) : (pairs.map g).getD (wk made 0 w) dA = g (wk W 0 w, wk V 0 w) := by
  have := h.walk e hw h.zero
  rw [List.getD_eq_getElem?_getD, List.getElem?_map, this]
  rfl
end
end Mch

namespace Own
open PySem PySem.Spec PyProof.Rows L2 SX RZ
/-! ### zip of two lists or of two tuples, its pairs kept: what was given out may be there still, or not -/
section
variable {prog : Program} {w : World} {A : Around} {E : Value → Shared → Prop} {s : Shared} {z TI TO i1 i2 : Addr} {f1 f2 : List Addr} {n1 n2 i : Nat} {P1 P2 : Nat → Value → Prop} {S1 S2 : Nat → Heap → Prop} {a1 a2 v : Value} {b : Bool}
end
def ItQ (q : Bool) (h : Heap) (it a : Addr) (i : Nat) : Prop := if q = true then h.IsTupleIter it a i else h.IsListIter it a i
theorem ItQ.at {q : Bool} {h h' : Heap} {it a : Addr} {i : Nat} (t : ItQ q h it a i) (k : ∀ o, h.get? it = some o → h'.get? it = some o) : ItQ q h' it a i := by
  cases q
  · obtain ⟨o, e, r⟩ := t
    exact ⟨o, k o e, r⟩
  · obtain ⟨o, e, r⟩ := t
    exact ⟨o, k o e, r⟩
theorem ItQ.obj {q : Bool} {h : Heap} {it a : Addr} {i : Nat} (t : ItQ q h it a i) : ∃ o, h.get? it = some o ∧ ∀ v, o.data ≠ .cell v := by
  cases q
  · obtain ⟨o, e, _, r⟩ := t
    exact ⟨o, e, fun v z => by rw [r] at z; cases z⟩
  · obtain ⟨o, e, _, r⟩ := t
    exact ⟨o, e, fun v z => by rw [r] at z; cases z⟩
section
variable {X : Cx} {pins : List (Addr × Obj)} {σ : L2.St} {H : Hp} {s : Shared} {a it : Addr} {xs ys : List V} {q : Bool}
end
/-! ### {(a, b): c} -/
end Own

namespace Own
open PySem PySem.Spec PyProof.Rows L2 SX LamX NdefX
/-! ### functions that are handed to a def -/
section
variable {X : Cx} {pins : List (Addr × Obj)} {σ : L2.St} {H : Hp} {s : Shared} {cl : List (Str × Addr)} {fr : List Str} {ws : List (Option V)}
end
/-- the promise of a lambda -/
structure LOk (P : Program) (w : World) (K : PySem.W.Frag) (mg : Str → Option Value) (base : Heap) (CX : CXT) (k : Nat) (f : Addr) (F : LF) (ps fr : List Str) (sp : List (Option V) → Sp) : Prop where
  len : ∀ ws vs H Q E, sp ws vs H Q E → vs.length = ps.length
  run : ∀ (A : Around) (outer : List Env) (s : Shared) (H : Hp) (us : List Value) (vs : List V) (ws : List (Option V)) (Q : VK) (E : XK), Room k A → Env0 P w K mg base A outer s H → LamAt H f F →
    CellsAt F.cl fr ws s.heap H → Vals vs us → sp ws vs H Q E → codeAny (model P w) A (.call (.ref f) ⟨us, []⟩) (CR CX outer P w H s Q E) s
theorem LOk.mono {P : Program} {w : World} {K : PySem.W.Frag} {mg : Str → Option Value} {base : Heap} {CX : CXT} {j k : Nat} {f : Addr} {F : LF} {ps fr : List Str} {sp : List (Option V) → Sp} (o : LOk P w K mg base CX j f F ps fr sp) (h : j ≤ k) : LOk P w K mg base CX k f F ps fr sp := ⟨o.len, fun A outer s H us vs ws Q E hr => o.run A outer s H us vs ws Q E (hr.mono h)⟩
/-! ### what a frame may call -/
section
variable {X : Cx} {f : Addr} {sp : Sp} {at_ : Hp → Prop} {i j k : Nat} {x y : Str} {t : TA} {e : Expr} {es : List Expr} {p q pos : Pos}
end
/-! ### {a: b}, a a tuple of any kind -/
section
variable {X : Cx} {κ : Type} [DecidableEq κ] {P : Program} {w : World} {knd : PySem.HeapKind P w κ} {kin : Hp → κ → Addr → Prop}
end
end Own

namespace Own
open PySem PySem.Spec PyProof.Rows L2 SX LamX NdefX
/-! ### a lambda as a value, in a def that makes other functions too -/
section
variable {X : Cx} {pins : List (Addr × Obj)} {σ : L2.St} {H : Hp} {s : Shared}
theorem lam_tailN {T : List NTab} {nm : Nat → Nat → Str} {c P : Addr} {params : Arguments} {body : Expr} {scope : Scope} {pos : Pos} {d : Option (Addr × V)} {E : Value → Shared → Prop} {Q : Value → Shared → Prop} (I : Inv X pins σ H s) (TB : TabB X.base X.mg c P) (hcode : X.env.code = .ref c)
    (hm : (P, nm) ∈ T) (hn : nm pos.line pos.col = X.env.qual ++ "<lambda>") (hu : ∀ p ∈ T, p.1 = P → p.2 = nm) (hT : TabsN T H) (hfree : ∀ y ∈ scope.names, y.2 = .free → ∃ c, X.env.cells.lookup y.1 = some c)
    (h : ∀ (f c' : Addr) (H1 : Hp) (s' : Shared), Inv X pins σ H1 s' → ExtN H H1 → TabsN T H1 → H f = none → H1 f = some (LamO f ⟨params, body, scope, X.env.qual ++ "<lambda>", cloFrom X.env.cells scope.names [], c', d⟩) →
      H1 c' = some (CodeO c' (X.env.qual ++ "<lambda>")) → Q (.ref f) s') :
    wpAny (model X.prog X.w) X.A (makeTail "<lambda>" (X.env.qual ++ "<lambda>") params (.expr body) scope X.env (LF.dV ⟨params, body, scope, X.env.qual ++ "<lambda>", [], 0, d⟩) .none none pos pos.line) Q E s := by
  obtain ⟨ps, hP, ht, ha⟩ := (show TabN H P nm from hT _ hm)
  unfold makeTail
  rw [closure_ok hfree, I.ok.glob]
  refine wpAny_bind (wpAny_pure ?_)
  dsimp only
  refine clo_tuple fun ctv h1 k1 z1 => wpAny_bind ?_
  have I1 : Inv X pins σ H { s with heap := h1, toks := s.toks } := I.kept k1
  have tab : h1.get? P = some { cls := .none, data := .fields ps } := I1.hok P _ hP
  have hd := TB.code.keeps I1.bk
  have gl : h1.Ns mainGlobals X.mg := I1.mod.glob.keeps I1.bk
  obtain ⟨bm, ob, e1, e2, _, e3, e4, e5, e6, e7⟩ := TB.bm.keeps I1.bk
  cases hc : codeAmong pos ps.toList with
  | some cv =>
    obtain ⟨c', rfl, hco⟩ := ha pos cv hc
    rw [hn] at hco
    refine wpAny_functionCode_hit hcode (hd.code tab ht) hc (wpAny_bind (wpAny_builtinsFor gl e1 e2 e4 e5 e6 e7 (wpAny_bind (wpAny_nsGet gl (wpAny_bind (wpAny_pure (wpAny_newObj_type ?_ (by size_fits))))))))
    have fresh : H h1.objs.size = none := I1.hok.fresh (Nat.le_refl _)
    refine h h1.objs.size c' _ _ (lam_known (F := ⟨params, body, scope, X.env.qual ++ "<lambda>", cloFrom X.env.cells scope.names [], c', d⟩) (pm := (X.mg "__name__").getD .none) (ctv := ctv) I1) (ExtN.of (same_new fresh)) (hT.ext (same_new fresh)) fresh upd_same ?_
    exact same_new fresh _ _ hco
  | none =>
    refine wpAny_functionCodeX hcode (hd.code tab ht) (hd.tab tab) hc fun c' h2 tk hx hge hlt _ hrec htb _ => ?_
    obtain ⟨c2, oc, vs, t, e, hoc, hdat, hv⟩ := hrec
    cases e
    have I2 := inv_table (q := X.env.qual ++ "<lambda>") (t' := tk) (more := #[rawInt pos.line, rawInt pos.col, .ref c']) (h' := h2) I1 hP (fun b o nb z => hx b o nb z) htb.2 hge ⟨oc, vs, t, hoc, hdat, hv⟩
    have newC : H c' = none := I1.hok.fresh hge
    have grown : ExtN H (upd (upd H P (.tbl (ps ++ #[rawInt pos.line, rawInt pos.col, .ref c']))) c' (CodeO c' (X.env.qual ++ "<lambda>"))) := by
      intro b o z no
      have nP : b ≠ P := by
        rintro rfl
        exact no ps (Option.some.inj (z.symm.trans hP))
      rw [upd_ne (ne_of_none z newC), upd_ne nP]
      exact z
    have flat : (ps ++ #[rawInt pos.line, rawInt pos.col, .ref c']).toList = ps.toList ++ [rawInt pos.line, rawInt pos.col, .ref c'] := by simp
    have tabs : TabsN T (upd (upd H P (.tbl (ps ++ #[rawInt pos.line, rawInt pos.col, .ref c']))) c' (CodeO c' (X.env.qual ++ "<lambda>"))) := by
      intro p hp
      by_cases hb : p.1 = P
      · rw [hu p hp hb, hb]
        refine ⟨_, (upd_ne (ne_of_none hP newC)).trans upd_same, flat ▸ PySem.TriplesOk_snoc _ _ _ _ ht, fun p' cv hcv => ?_⟩
        rw [flat] at hcv
        rcases among_app2 _ ht hcv with z | ⟨z, z1, z2⟩
        · obtain ⟨c0, z1, z2⟩ := ha p' cv z
          exact ⟨c0, z1, grown _ _ z2 codeO_ne⟩
        · refine ⟨c', z, ?_⟩
          rw [← z1, ← z2, hn]
          exact upd_same
      · obtain ⟨qs, a1, a2, a3⟩ := hT p hp
        refine ⟨qs, (upd_ne (ne_of_none a1 newC)).trans ((upd_ne hb).trans a1), a2, fun p' cv hcv => ?_⟩
        obtain ⟨c0, z1, z2⟩ := a3 p' cv hcv
        exact ⟨c0, z1, grown _ _ z2 codeO_ne⟩
    have gl2 : h2.Ns mainGlobals X.mg := gl.extBut hx TB.gP
    refine wpAny_bind (wpAny_builtinsFor gl2 e1 e2 (hx _ _ e3 e4) e5 e6 e7 (wpAny_bind (wpAny_nsGet gl2 (wpAny_bind (wpAny_pure (wpAny_newObj_type ?_ (by size_fits)))))))
    have newF := I2.hok.fresh (Nat.le_refl _)
    have stay := same_new (o := LamO h2.objs.size ⟨params, body, scope, X.env.qual ++ "<lambda>", cloFrom X.env.cells scope.names [], c', d⟩) newF
    refine h h2.objs.size c' _ _ (lam_known (F := ⟨params, body, scope, X.env.qual ++ "<lambda>", cloFrom X.env.cells scope.names [], c', d⟩) (pm := (X.mg "__name__").getD .none) (ctv := ctv) I2) (grown.trans (ExtN.of stay)) (tabs.ext stay) ?_ upd_same (stay _ _ upd_same)
    exact I1.hok.fresh (Nat.le_trans hge (Nat.le_of_lt hlt))
def tLamVN (T : List NTab) (mk : Addr → LF) : TE := fun _ H Q => TabsN T H ∧ ∀ f c' H1, ExtN H H1 → TabsN T H1 → H f = none → LamAt H1 f (mk c') → Q (.ref f) H1
theorem pe_lamVN {T : List NTab} {nm : Nat → Nat → Str} {c P : Addr} {params : Arguments} {body : Expr} {scope : Scope} {pos : Pos} (TB : TabB X.base X.mg c P) (hcode : X.env.code = .ref c) (hm : (P, nm) ∈ T) (hn : nm pos.line pos.col = X.env.qual ++ "<lambda>") (hu : ∀ p ∈ T, p.1 = P → p.2 = nm)
    (hfree : ∀ y ∈ scope.names, y.2 = .free → X.env.scope.names.lookup y.1 = some .cell ∨ X.env.scope.names.lookup y.1 = some .free) (hdef : defaultsOf params X.env = ([], [])) :
    PE X (.Lambda params body scope pos) (tLamVN T (lfOf X params body scope none)) := by
  constructor
  rintro pins s σ H Q I ⟨hT, h⟩
  have has : ∀ y ∈ scope.names, y.2 = .free → ∃ c, X.env.cells.lookup y.1 = some c := fun y hy e => (hfree y hy e).elim (fun k => I.ok.has _ (.inl k)) fun k => I.ok.has _ (.inr k)
  refine PySem.W.kla_eval hdef ?_
  rw [makeFunction_eq]
  simp only [List.zip_nil_right, List.filterMap_nil, List.isEmpty_nil, if_true, pure_bind]
  refine lam_tailN (d := none) I TB hcode hm hn hu hT has fun f c' H1 s' I1 e1 t1 nf hf hc => ?_
  exact ⟨.ref f, H1, I1, rfl, h f c' H1 e1 t1 nf ⟨hf, hc, fun t v z => by cases z⟩⟩
end
end Own

namespace Own
open PySem PySem.Spec PyProof.Rows L2 SX LamX NdefX
/-! ### a nested def with cells of its own beside the captured ones -/
theorem cellsFrom_app : ∀ (names : List (Str × NameKind)) (n : Nat) (acc : List (Str × Addr)), cellsFrom n names acc = cellsFrom n names [] ++ acc
  | [], _, _ => rfl
  | (x, k) :: r, n, acc => by
    unfold cellsFrom
    split
    · rw [cellsFrom_app r (n + 1) ((x, n) :: acc), cellsFrom_app r (n + 1) [(x, n)], List.append_assoc]
      rfl
    · exact cellsFrom_app r n acc
theorem own_cell : ∀ (names : List (Str × NameKind)) (n : Nat) (acc : List (Str × Addr)) {y : Str} {c : Addr}, (y, c) ∈ cellsFrom n names acc → (y, c) ∈ acc ∨ (y, NameKind.cell) ∈ names
  | [], _, _, _, _, h => .inl h
  | (x, k) :: r, n, acc, y, c, h => by
    unfold cellsFrom at h
    split at h
    · rename_i hk
      rcases own_cell r (n + 1) _ h with z | z
      · rcases List.mem_cons.mp z with e | z
        · cases e
          have ek : k = NameKind.cell := by
            cases k <;> first | rfl | (exact absurd hk (by decide))
          exact .inr (by rw [ek]; exact List.mem_cons_self ..)
        · exact .inl z
      · exact .inr (List.mem_cons_of_mem _ z)
    · rcases own_cell r n acc h with z | z
      · exact .inl z
      · exact .inr (List.mem_cons_of_mem _ z)
section
variable {M : Model} {A : Around} {E : Value → Shared → Prop} {s₀ s : Shared} {m cm : Str → Option Value} {env : Env} {cs : List (Str × Addr)}
end
/-- its names: the parameters (plain or cells), then the captured ones, then its locals -/
structure GScope (N ps fr : List Str) (sc : Scope) : Prop where
  kind : sc.kind = .function
  co : sc.isCoroutine = false
  gen : sc.isGenerator = false
  nd : N.Nodup
  pre : N.take (ps.length + fr.length) = ps ++ fr
  par : ∀ x ∈ ps, sc.names.lookup x = some .local ∨ sc.names.lookup x = some .cell
  sep : ∀ y ∈ sc.names, y.2 = .cell → y.1 ∉ fr
  free : ∀ y ∈ sc.names, y.2 = .free → y.1 ∈ fr
  frk : ∀ x ∈ fr, sc.names.lookup x = some .free
abbrev envG (F : NF) (f L : Addr) : Env := newEnv F.scope L mainGlobals (cellsFrom (L + 1) F.scope.names F.cl) (F.qual ++ ".<locals>.") (some f) (.ref F.c) none builtinsNs
/-- the context of its body -/
def gcx (CX : CXT) (P : Program) (w : World) (K : PySem.W.Frag) (mg : Str → Option Value) (base : Heap) (N : List Str) (F : NF) (f : Addr) (A : Around) (outer : List Env) (s : Shared) (H : Hp) (E : XK) : Cx :=
  { prog := P, w := w, K := K, mg := mg, base := base, A := A.deeper (envG F f s.heap.objs.size), N := N, s_0 := s, H_0 := H, env := envG F f s.heap.objs.size, outer := outer, stack := envG F f s.heap.objs.size :: outer, ex := [], calm := true, fn := fun _ => false, pn := [],
    xe := fun e s' => wpAny (model P w) (A.deeper (envG F f s.heap.objs.size)) (leaving (envG F f s.heap.objs.size) e) (fun _ z => CX outer H s E e z) (fun e' z => CX outer H s E e' z) s' }
section
variable {CX : CXT} {P : Program} {w : World} {K : PySem.W.Frag} {mg : Str → Option Value} {base : Heap} {N ps fr : List Str} {F : NF} {f : Addr} {k j : Nat} {sp sp' : List (Option V) → Sp} {A : Around} {outer : List Env} {s s1 : Shared} {H : Hp} {E : XK} {us : List Value} {vs : List V} {ws : List (Option V)}
theorem inv_startG (S : GScope N ps fr F.scope) (hd : A.handled = none) (e0 : Env0 P w K mg base A outer s H) (hl : vs.length = ps.length) (r : Vals vs us) (C : CellsAt F.cl fr ws s.heap H)
    (x : InCallC s s.heap.objs.size (bindL (fun y => F.scope.names.lookup y) (ps.zip us) fun _ => none) (cellsFrom (s.heap.objs.size + 1) F.scope.names []) (bindC (fun y => F.scope.names.lookup y) (ps.zip us) fun _ => none) s1) :
    Inv (gcx CX P w K mg base N F f A outer s H E) [] (startF N vs ws) H s1 := by
  obtain ⟨h1, tk, rfl, keep⟩ := x.done
  have long : ps.length + fr.length ≤ N.length := by
    have q := congrArg List.length S.pre
    rw [List.length_take, List.length_append] at q
    omega
  have noex : ∀ b : Addr, b ∉ (gcx CX P w K mg base N F f A outer s H E).ex := fun b z => absurd (show b ∈ ([] : List Addr) from z) (by simp)
  have live : ∀ {c : Addr} {v : Option Value}, s.heap.IsCell c v → h1.IsCell c v := fun {c v} ⟨o, ho, hd⟩ => ⟨o, keep _ _ ho, hd⟩
  -- a name's cell: its own, or captured
  have two : ∀ {y c}, (gcx CX P w K mg base N F f A outer s H E).env.cells.lookup y = some c → (cellsFrom (s.heap.objs.size + 1) F.scope.names []).lookup y = some c ∨ F.cl.lookup y = some c := by
    intro y c e
    have e : (cellsFrom (s.heap.objs.size + 1) F.scope.names F.cl).lookup y = some c := e
    rw [cellsFrom_app, List.lookup_append] at e
    cases z : (cellsFrom (s.heap.objs.size + 1) F.scope.names []).lookup y with
    | some c' => rw [z] at e; exact .inl e
    | none => rw [z] at e; exact .inr e
  have capt : ∀ {y c}, y ∈ fr → F.cl.lookup y = some c → (gcx CX P w K mg base N F f A outer s H E).env.cells.lookup y = some c := by
    intro y c hy e
    show (cellsFrom (s.heap.objs.size + 1) F.scope.names F.cl).lookup y = some c
    rw [cellsFrom_app, List.lookup_append]
    cases z : (cellsFrom (s.heap.objs.size + 1) F.scope.names []).lookup y with
    | some c' =>
      rcases own_cell _ _ _ (PySem.mem_of_lookup z) with q | q
      · cases q
      · exact absurd hy (S.sep _ q rfl)
    | none => exact e
  have mine : ∀ {y c}, (cellsFrom (s.heap.objs.size + 1) F.scope.names []).lookup y = some c → (gcx CX P w K mg base N F f A outer s H E).env.cells.lookup y = some c := by
    intro y c e
    show (cellsFrom (s.heap.objs.size + 1) F.scope.names F.cl).lookup y = some c
    rw [cellsFrom_app, List.lookup_append, e]
    rfl
  have young : ∀ {y c}, (cellsFrom (s.heap.objs.size + 1) F.scope.names []).lookup y = some c → s.heap.objs.size < c := fun e => x.above _ _ (PySem.mem_of_lookup e)
  have old : ∀ {y c}, F.cl.lookup y = some c → c < s.heap.objs.size := fun e => let ⟨_, v, z⟩ := C.all _ _ e; z.lt
  refine ⟨⟨e0.mod, S.kind, rfl, rfl, Nat.le_refl _, fun y z c a b => ?_, fun y hy => ?_, fun y c z _ => ?_, fun _ => hd, Around.frames_deeper e0.frames, .inr ⟨rfl, rfl⟩, fun b z => absurd z (noex b), e0.bs, e0.bsz, fun b _ _ => noex b, fun b z => absurd z (noex b), e0.funs, e0.frf⟩,
    rfl, e0.bare, Un.kept keep, ⟨_, x.toInCall.ns, fun i y v e1 e2 e3 => ?_⟩, fun y c e => ?_, e0.hok.fresh (Nat.le_refl _), fun y c e => ?_, fun q hq => absurd (show q ∈ ([] : List (Addr × Obj)) ++ [] from hq) (by simp), e0.hok.kept keep, ?_⟩
  · rcases two a with a | a <;> rcases two b with b | b
    · exact name_of_addr x.apart (PySem.mem_of_lookup a) (PySem.mem_of_lookup b)
    · exact absurd (Nat.lt_trans (young a) (old b)) (Nat.lt_irrefl _)
    · exact absurd (Nat.lt_trans (young b) (old a)) (Nat.lt_irrefl _)
    · exact C.inj _ _ _ a b
  · have hy : F.scope.names.lookup y = some .cell ∨ F.scope.names.lookup y = some .free := hy
    rcases hy with hy | hy
    · obtain ⟨c, hc⟩ := cell_has (n := s.heap.objs.size + 1) hy
      exact ⟨c, mine hc⟩
    · have hf := S.free _ (PySem.mem_of_lookup hy) rfl
      obtain ⟨i, hi⟩ := List.mem_iff_getElem?.mp hf
      obtain ⟨c, hc, _⟩ := C.has i y hi
      exact ⟨c, capt hf hc⟩
  · have z : false = true := z
    cases z
  · have e1 : N[i]? = some y := e1
    have clen := C.len
    unfold startF at e2
    by_cases c1 : i < ps.length
    · have hq : (ps ++ fr)[i]? = some y := by
        rw [← S.pre, List.getElem?_take_of_lt (by omega)]
        exact e1
      rw [List.getElem?_append_left c1] at hq
      rw [List.getElem?_append_left (by rw [List.length_map]; omega), List.getElem?_map] at e2
      have ha : vs[i]? = some v := by
        cases e : vs[i]? with
        | none => rw [e] at e2; cases e2
        | some a => rw [e] at e2; cases e2; rfl
      obtain ⟨u, hu, rv⟩ := r.get ha
      have nodup : ps.Nodup := by
        have q := S.nd.sublist (List.take_sublist (ps.length + fr.length) N)
        rw [S.pre] at q
        exact (List.nodup_append.mp q).1
      refine ⟨u, rv, ?_⟩
      rcases S.par y (List.mem_of_getElem? hq) with kk | kk
      · exact .inl ⟨kk, bindL_get nodup hq hu kk⟩
      · obtain ⟨c, e⟩ := cell_has (n := s.heap.objs.size + 1) kk
        refine .inr ⟨.inl kk, c, mine e, ?_⟩
        have q := x.cell y c e
        rw [bindC_get nodup hq hu (by show F.scope.names.lookup y ≠ _; rw [kk]; decide)] at q
        exact q
    · rw [List.getElem?_append_right (by rw [List.length_map]; omega), List.length_map] at e2
      by_cases c2 : i < ps.length + fr.length
      · have hq : (ps ++ fr)[i]? = some y := by
          rw [← S.pre, List.getElem?_take_of_lt (by omega)]
          exact e1
        rw [List.getElem?_append_right (by omega)] at hq
        rw [List.getElem?_append_left (by omega), hl] at e2
        obtain ⟨c, hc, hv⟩ := C.has (i - ps.length) y hq
        obtain ⟨u, ru, hu⟩ := hv v e2
        have hf := List.mem_of_getElem? hq
        exact ⟨u, ru, .inr ⟨.inr (S.frk y hf), c, capt hf hc, live hu⟩⟩
      · rw [List.getElem?_append_right (by omega), List.getElem?_replicate] at e2
        split at e2 <;> cases e2
  · rcases two e with e | e
    · exact ⟨_, x.cell y c e⟩
    · obtain ⟨_, v, z⟩ := C.all y c e
      exact ⟨v, live z⟩
  · rcases two e with e | e
    · exact e0.hok.fresh (Nat.le_of_lt (young e))
    · exact (C.all y c e).1
  · have clen := C.len
    unfold startF
    show _ = N.length
    rw [List.length_append, List.length_append, List.length_map, List.length_replicate]
    omega
end
end Own

namespace Own
open PySem PySem.Spec PyProof.Rows L2 SX RZ
/-! ### set(l) of a list of whole numbers, with what sorted(set(l)) asks of it -/
section
variable {P : Program} {w : World} {A : Around} {E : Value → Shared → Prop} {s : Shared}
end
section
variable {X : Cx} {K : PySem.W.Frag}
end
end Own

namespace Own
open PySem PySem.Spec PyProof.Rows L2 SX LamX NdefX
/-! ### a nested def that calls another one: the other one's cells beside its own -/
structure NO2 (P : Program) (w : World) (K : PySem.W.Frag) (mg : Str → Option Value) (base : Heap) (CX : CXT) (k : Nat) (f : Addr) (F : NF) (ps fr : List Str) (sp : List (Option V) → Sp) (cl2 : List (Str × Addr)) (fr2 : List Str) (ws2 : List (Option V)) : Prop where
  len : ∀ ws vs H Q E, sp ws vs H Q E → vs.length = ps.length
  run : ∀ (A : Around) (outer : List Env) (s : Shared) (H : Hp) (us : List Value) (vs : List V) (ws : List (Option V)) (Q : VK) (E : XK), Room k A → Env0 P w K mg base A outer s H → H f = some (FnO f F) → H F.c = some (CodeO F.c F.qual) →
    CellsAt F.cl fr ws s.heap H → CellsAt cl2 fr2 ws2 s.heap H → Vals vs us → sp ws vs H Q E → codeAny (model P w) A (.call (.ref f) ⟨us, []⟩) (CR CX outer P w H s Q E) s
section
variable {CX : CXT} {P : Program} {w : World} {K : PySem.W.Frag} {mg : Str → Option Value} {base : Heap} {N ps fr fr2 : List Str} {F : NF} {f : Addr} {k j : Nat} {sp : List (Option V) → Sp} {cl2 : List (Str × Addr)} {ws2 : List (Option V)}
theorem NO2.mono (o : NO2 P w K mg base CX j f F ps fr sp cl2 fr2 ws2) (h : j ≤ k) : NO2 P w K mg base CX k f F ps fr sp cl2 fr2 ws2 := ⟨o.len, fun A outer s H us vs ws Q E hr => o.run A outer s H us vs ws Q E (hr.mono h)⟩
end
end Own

namespace Own
open PySem PySem.Spec PyProof.Rows L2 SX LamX NdefX
section
variable {X : Cx}
/-- x(e), e a lambda just made -/
def tTryE (X : Cx) (k : Nat) (te : TE) (TT : (XK → Hp → VK → Prop) → Hp → VK → Prop) : TE := fun σ H Q => tCons te tNil σ H fun vs H1 => ∃ v, vs = [v] ∧ ∃ f F t, v = .ref f ∧ LamB X k F t ∧ LamAt H1 f F ∧ TT (fun E G Q' => LamAt G f F ∧ t E σ G Q') H1 Q
theorem pe_tryE {TT : (XK → Hp → VK → Prop) → Hp → VK → Prop} {x a : Str} {g : Addr} {k : Nat} {pg : Arguments} {bg : List Stmt} {sg : Scope} {dV kV doc pm cdv ct oc : Value} {an od : Option Addr} {osl : Array (Option Value)} {Ng : List Str} {e : Expr} {te : TE} {p pos : Pos}
    (hgl : Gl X x) (hm : X.mg x = some (.ref g)) (hk : PySem.W.keepIn X.K (.ref g) = true) (he : PE X e te)
    (lk : X.K.lookup g = some ⟨oc, od, .func (PySem.W.fnOf x x pg bg sg dV kV doc pm an cdv ct), osl⟩) (hcg : PySem.W.codeIn X.K cdv x = true) (hb : L2.Binds X.K (PySem.W.fnOf x x pg bg sg dV kV doc pm an cdv ct) [a] []) (Sg : FnScope Ng [a] sg) (hNg : Ng[0]? = some a) (hva : Vis sg a)
    (hG : GivesTo X Ng x sg g cdv bg a (X.env.qual ++ "<lambda>") TT) (hr : Room (k + 2) X.A)
    (hdb : (x == ("__debug__" : Str)) = false := by decide) (hd : (a == ("__debug__" : Str)) = false := by decide) (hcd : (a == ("__classdict__" : Str)) = false := by decide)
    (hse : starEach [e] X.env = [(false, eval e X.env)] := by rfl) :
    PE X (.Call (.Name x p) [e] [] pos) (tTryE X k te TT) := by
  refine ⟨fun pins s σ H Q I h => ?_⟩
  refine wpAny_Call_Name_kw (ld_glob I hgl hm ?_ hdb)
  refine PySem.W.callWith_K (h₀ := X.base) I.ok.mod.kin hk (thn ((pa_cons he pa_nil hse).run pos pins s σ H _ I h) ?_) hse (by rfl)
  rintro us s1 ⟨vs, G, I1, rel, v, rfl, f, F, t, rfl, ⟨params, body, sc, d, c', rfl, L, bind, reads⟩, lam, asks⟩
  cases rel with
  | cons r rest =>
    cases rest
    cases (show _ = Value.ref f from r)
    refine ⟨I1.kIn, wpAny_call (codeAny_mono (run_lam I1 lk hcg hb Sg hNg hva hG hr L bind (fun A outer s H E hr2 => reads f A outer s H E hr2) lam asks hd hcd) ?_)⟩
    rintro (e | fl) z out
    · exact (show False from out).elim
    · cases fl
      all_goals first | exact I1.after out | exact False.elim out
end
end Own

namespace Own
open PySem PySem.Spec PyProof.Rows L2 SX RZ
open Builtin Builtin.ObjectAttr
/-! ### own errors over LookupError -/
section
variable {prog : Program} {w : World} {A : Around} {R : Result → Shared → Prop} {hp : Heap} {gens : Array GenState} {dr : Drawn} {tk0 : Nat} {os : OsState} {K : PySem.W.Frag} {nm : Str} {tk : Tok} {v : Value} {e C : Addr} {fv : Array Value} {cd : ClassData}
end
section
variable {X : Cx} {pins : List (Addr × Obj)} {σ : L2.St} {H : Hp} {s : Shared} {a C : Addr} {f : Str} {y : V} {u : Value} {Q : Unit → Shared → Prop} {E : Value → Shared → Prop} {A : Around}
end
/-! the facts, computed -/
end Own

namespace Own
open PySem PySem.Spec PyProof.Rows L2 SX GenW
/-! ### generators whose consumer changes some objects of its own while they sleep -/
/-- while the generator sleeps, only what stands at cs may change -/
structure Nap (cs : List Addr) (s s' : Shared) : Prop where
  os : s'.os = s.os
  bare : AllBare s'.gens
  keep : ∀ b o, b ∉ cs → s.heap.get? b = some o → s'.heap.get? b = some o
  held : ∀ c ∈ cs, ∃ o, s'.heap.get? c = some o ∧ ∀ v, o.data ≠ .cell v
/-- what the consumer changes is none of the generator's -/
structure Far (X : Cx) (cs : List Addr) (ip : List (Addr × Obj)) : Prop where
  young : ∀ c ∈ cs, X.s_0.heap.objs.size ≤ c
  cell : ∀ c ∈ cs, ∀ x d, X.env.cells.lookup x = some d → d ≠ c
  pins : ∀ p ∈ X.pn ++ ip, p.1 ∉ cs
/-- the generator runs: the consumer's objects stand as they stood when it was woken, at s₀ -/
def Run (X : Cx) (cs : List Addr) (ip : List (Addr × Obj)) (σ : L2.St) (H : Hp) (s₀ s : Shared) : Prop := ∃ cp : List (Addr × Obj), cp.map (·.1) = cs ∧ (∀ p ∈ cp, s₀.heap.get? p.1 = some p.2) ∧ Inv X (cp ++ ip) σ H s
section
variable {X : Cx} {cs : List Addr} {ip : List (Addr × Obj)} {σ : L2.St} {H : Hp} {s₀ s s' : Shared}
theorem Run.off (r : Run X cs ip σ H s₀ s) : ∀ c ∈ cs, H c = none ∧ c ≠ X.env.locals ∧ c ∉ X.fs ∧ ∃ o, s₀.heap.get? c = some o ∧ s.heap.get? c = some o := fun c hc => by
  obtain ⟨cp, e, e0, I⟩ := r
  rw [← e] at hc
  obtain ⟨p, hp, rfl⟩ := List.mem_map.mp hc
  obtain ⟨h1, h2, h3, h4, _⟩ := I.pin p (List.mem_append_right _ (List.mem_append_left _ hp))
  exact ⟨h2, h3, h4, p.2, e0 p hp, h1⟩
theorem Run.inv (r : Run X cs ip σ H s₀ s) : Inv X ip σ H s := by
  obtain ⟨cp, _, _, I⟩ := r
  exact I.pins_of fun p hp => I.pin p (List.mem_append_right _ (List.mem_append_right _ hp))
theorem Run.woken (F : Far X cs ip) (r : Run X cs ip σ H s₀ s) (z : Nap cs s s') : Run X cs ip σ H s' s' := by
  have off := r.off
  have I := r.inv
  obtain ⟨hh, g, d, t, o⟩ := s'
  have ho : o = s.os := z.os
  subst ho
  have J : Inv X ip σ H { s with heap := hh, gens := g, drawn := d, toks := t } := by
    refine I.step (g' := g) (t' := t) (d' := d) (ch := cs) (fun c hc => ⟨.inr (F.young c hc), (off c hc).2.1, F.cell c hc, fun p hp e => F.pins p hp (e ▸ hc)⟩)
      (fun b ob _ _ hc q _ => z.keep b ob hc q) (fun b ob _ _ hc q _ => ⟨ob.slots, z.keep b ob hc q⟩) (fun _ _ _ _ n => n) (fun b ob hc q => ⟨ob, z.keep b ob hc q⟩)
      (fun _ _ q => q) (fun _ _ _ q => q) (fun b ps q => ⟨#[], by rw [q]; simp⟩) (fun m hm => ?_) (fun b u q => ?_) z.bare
    · obtain ⟨ob, es, ep, ho, r⟩ := hm
      exact ⟨ob, es, ep, z.keep _ ob (fun hc => (off _ hc).2.1 rfl) ho, r⟩
    · refine (I.hok b u q).stay (fun c v hc y => z.keep c v (fun hm => ?_) y) (fun _ y => y) fun _ _ y => y
      have e := (off c hm).1
      rcases hc with y | y
      · rw [y, q] at e; cases e
      · rw [e] at y; cases y
  refine ⟨cs.map fun c => (c, (hh.get? c).getD { cls := .none, data := .fields #[] }), by rw [List.map_map]; exact List.map_id _, fun p hp => ?_, J.pins_of fun p hp => ?_⟩
  · obtain ⟨c, hc, rfl⟩ := List.mem_map.mp hp
    obtain ⟨ob, e, _⟩ := z.held c hc
    have e' : hh.get? c = some ob := e
    show hh.get? c = some ((hh.get? c).getD _)
    rw [e']; rfl
  rcases List.mem_append.mp hp with hp | hp
  · obtain ⟨c, hc, rfl⟩ := List.mem_map.mp hp
    obtain ⟨ob, e, nd⟩ := z.held c hc
    have e' : hh.get? c = some ob := e
    obtain ⟨h1, h2, h3, _⟩ := off c hc
    refine ⟨?_, h1, h2, h3, ?_⟩
    · show hh.get? c = some ((hh.get? c).getD _)
      rw [e']; rfl
    · show ∀ v, ((hh.get? c).getD _).data ≠ .cell v
      rw [e']; exact nd
  · exact J.pin p (List.mem_append_right _ hp)
end
/-- the k-th item of out is handed out -/
def Hand (X : Cx) (cs : List Addr) (out : List V) : Protocol := fun n s₀ v s kap => ∃ (k : Nat) (x : V), n + 1 + k = sizeLine ∧ out[k]? = some x ∧ RelV x v ∧ (∃ ip σ H, Run X cs ip σ H s₀ s) ∧ ∀ s', Nap cs s s' → kap (.send .none) s'
/-- what is wanted behind a statement of a generator, by the number of items that are out -/
structure EndsK where
  nx : Nat → L2.St → Hp → Prop
  rt : Nat → VK
  bk : Nat → L2.St → Hp → Prop := fun _ _ _ => False
  ct : Nat → L2.St → Hp → Prop := fun _ _ _ => False
def EndsK.at (D : EndsK) (k : Nat) : Ends := { nx := D.nx k, rt := D.rt k, bk := D.bk k, ct := D.ct k }
abbrev TK := EndsK → Nat → L2.St → Hp → Prop
def Got (X : Cx) (cs : List Addr) (ip : List (Addr × Obj)) (D : EndsK) (k : Nat) (s₀ : Shared) : Flow → Shared → Prop
  | .next, s => ∃ σ H, Run X cs ip σ H s₀ s ∧ D.nx k σ H
  | .brk, s => ∃ σ H, Run X cs ip σ H s₀ s ∧ D.bk k σ H
  | .cont, s => ∃ σ H, Run X cs ip σ H s₀ s ∧ D.ct k σ H
  | .ret u, s => ∃ v σ H, Run X cs ip σ H s₀ s ∧ RelV v u ∧ D.rt k v H
/-- where the code stands, and what follows a statement -/
structure Spot (X : Cx) (cs : List Addr) (ip : List (Addr × Obj)) (A : Around) (c : Code) (fs : List Frame) (gd : Bool → Bool) : Prop where
  far : Far X cs ip
  over : A.over c fs = X.A
  split : splitAtGen fs = none
  guard : fs.any Frame.guarded = false
  gd : gd false = false
structure Then (X : Cx) (cs : List Addr) (ip : List (Addr × Obj)) (out : List V) (A : Around) (R : GenEnd) (c : Code) (fs : List Frame) (K : Flow → Sem PySem.Fin) (J : Value → Sem PySem.Fin) (D : EndsK) : Prop where
  ok : ∀ (n k : Nat) (s₀ s : Shared) (f : Flow), n + k = sizeLine → Got X cs ip D k s₀ f s → Seg (model X.prog X.w) A R (Hand X cs out) n s₀ c (K f) fs s
  exc : ∀ (n : Nat) (s₀ : Shared) (e : Value) (s : Shared), X.xe e s → Seg (model X.prog X.w) A R (Hand X cs out) n s₀ c (J e) fs s
section
variable {X : Cx} {out : List V} {st : Stmt} {rest : List Stmt}
/-- what hands out nothing -/
def tSame (t : TS) : TK := fun D k σ H => t (D.at k) σ H
def tStop : TK := fun D k σ H => D.nx k σ H
def tOn (t u : TK) : TK := fun D k σ H => t { D with nx := u D } k σ H
end
end Own

namespace Own
open PySem PySem.Spec PyProof.Rows L2 SX GenW
/-! ### loops in generators -/
/-- what a loop's own code does with an exception of a turn -/
abbrev noted (env : Env) (e : Value) : Sem PySem.Fin := (do noteFrame e env; theTreesLotGoes e : Sem Unit).wrap (fun _ => .raise e) .raise id id
section
variable {prog : Program} {w : World} {A : Around} {R : GenEnd} {Y : Protocol} {n : Nat} {s₀ s : Shared} {fs : List Frame} {env : Env}
end
/-- the frame under a loop's code -/
abbrev back (env : Env) (x : Value) : Sem Unit := do
  if (← field x 1) == Value.none then unsupported "frame.own-activation:exception-without-traceback"
  setFlight x env.frame
abbrev under (env : Env) (K : Flow → Sem PySem.Fin) (J : Value → Sem PySem.Fin) (gd : Bool → Bool) (lv : List Value → List Value) : Result → Sem PySem.Fin :=
  fun r => ((match r with | .ok f => (.pure f : Sem Flow) | .error e => .raise e).onRaise (back env)).wrap K J gd lv
abbrev loopF (env : Env) (K : Flow → Sem PySem.Fin) (J : Value → Sem PySem.Fin) (gd : Bool → Bool) (lv : List Value → List Value) (c : Code) (p : Pos) : Frame := .ret (under env K J gd lv) none (gd false) (lv []) c p []
section
variable {X : Cx} {cs : List Addr} {ip : List (Addr × Obj)} {out : List V} {A : Around} {R : GenEnd} {c : Code} {fs : List Frame} {K : Flow → Sem PySem.Fin} {J : Value → Sem PySem.Fin} {gd : Bool → Bool} {lv : List Value → List Value} {D : EndsK} {n k : Nat} {s₀ s : Shared}
theorem Spot.loop {c' : Code} {p : Pos} (g : Spot X cs ip A c fs gd) (hw : c'.weight = 0) (hu : c'.cUnits = 0) : Spot X cs ip A c' (loopF X.env K J gd lv c p :: fs) id where
  far := g.far
  over := (over_loop hw hu).trans g.over
  split := by
    show Option.map _ (splitAtGen fs) = none
    rw [g.split]; rfl
  guard := by
    show (gd false || _) = false
    rw [g.gd, Bool.false_or]
    exact g.guard
  gd := rfl
/-- an exception of a turn leaves the loop -/
theorem Then.leave {c' : Code} {p : Pos} {e : Value} (hp : PassesOwn (model X.prog X.w) X.A X.env X.xe) (g : Spot X cs ip A c fs gd) (f : Then X cs ip out A R c fs K J D) (hw : c'.weight = 0) (hu : c'.cUnits = 0) (h : X.xe e s) :
    Seg (model X.prog X.w) A R (Hand X cs out) n s₀ c' (noted X.env e) (loopF X.env K J gd lv c p :: fs) s := by
  have raised : ∀ (n : Nat) (s₀ : Shared) (e : Value) (s : Shared), cameBackBy (model X.prog X.w) X.A X.env X.xe e s → Seg (model X.prog X.w) A R (Hand X cs out) n s₀ c (under X.env K J gd lv (.error e)) fs s := by
    intro n s₀ e s h
    have q : under X.env K J gd lv (.error e) = (back X.env e).wrap (fun _ => J e) J gd lv := by
      show ((back X.env e).bind fun _ => (Sem.raise e : Sem Flow)).wrap K J gd lv = _
      rw [Sem.bind_eq_wrap, Sem.wrap_wrap]
      rfl
    rw [q]
    refine seg_wrap ?_
    rw [g.over]
    exact wpAny_mono h (fun _ s' hx => f.exc n s₀ e s' hx) fun x s' hx => f.exc n s₀ x s' hx
  refine seg_wrap ?_
  rw [(g.loop (K := K) (J := J) (lv := lv) (p := p) hw hu).over]
  exact wpAny_bind (wpAny_mono (hp e s h) (fun _ s' hb => wpAny_theTreesLotGoes (seg_leaf (.error e) (raised n s₀ e s' hb))) fun y s' hb => seg_leaf (.error y) (raised n s₀ y s' hb))
/-- while -/
def tWhileK (tc : TT) (tb : TK) : TK := fun D k σ H => ∃ W : Nat → Nat → L2.St → Hp → Prop, (∃ m, W m k σ H) ∧ ∀ m k σ H, W m k σ H → tc σ H fun b H1 =>
  if b = true then ∃ N : Nat → L2.St → Hp → Prop, (∀ k' σ' H', N k' σ' H' → ∃ m', m' < m ∧ W m' k' σ' H') ∧ tb { D with nx := N, ct := N, bk := D.nx } k σ H1 else D.nx k σ H1
end
end Own

namespace Own
open PySem PySem.Spec PyProof.Rows L2 SX GenW
/-! ### a generator def by its body: what it hands out is known beforehand -/
/-- the promise of a generator def: the arguments, the heap, what it hands out, what its end wants -/
abbrev SpN := List V → Hp → List V → (Hp → Prop) → Prop
abbrev EN : XK := fun _ _ _ => False
section
variable {P : Program} {w : World} {K : PySem.W.Frag} {mg : Str → Option Value} {base : Heap}
end
end Own

namespace Own
open PySem PySem.Spec PyProof.Rows L2 SX GenW
/-! ### a comprehension over a generator: [x for x in o.m(..)] -/
section
variable {P : Program} {w : World} {A : Around} {outer : List Env} {H : Hp} {sc : Shared} {out : List V} {Qe : Hp → Prop} {C D a : Addr} {g : Nat}
end
/-- an expression whose value is a generator that has not begun -/
abbrev TGenN := L2.St → Hp → (List V → Hp → Prop) → Prop
/-- the names of its own scope -/
def OneN (ns : List (Str × NameKind)) (x : Str) : Prop := ns = [(x, NameKind.local)] ∨ (ns = [(Str.ofString ".0", NameKind.local), (x, NameKind.local)] ∧ (x == Str.ofString ".0") = false)
theorem OneN.loc {ns : List (Str × NameKind)} {x : Str} (h : OneN ns x) : ∀ y ∈ ns, y.2 = .local := fun y hy => by
  rcases h with h | ⟨h, _⟩
  · rw [h] at hy
    rw [List.mem_singleton.mp hy]
  · rw [h] at hy
    rcases List.mem_cons.mp hy with rfl | hy
    · rfl
    · rw [List.mem_singleton.mp hy]
theorem OneN.at {ns : List (Str × NameKind)} {x : Str} (h : OneN ns x) : ns.lookup x = some .local := by
  rcases h with h | ⟨h, e⟩
  · rw [h, List.lookup_cons, beq_self_eq_true]
  · rw [h, List.lookup_cons, e, List.lookup_cons, beq_self_eq_true]
theorem OneN.all {ns : List (Str × NameKind)} {x : Str} (h : OneN ns x) : ∀ y ∈ ns, ns.lookup y.1 = some .local := fun y hy => by
  have a := h.at
  rcases h with h | ⟨h, e⟩
  · rw [h] at hy
    rw [List.mem_singleton.mp hy]; exact a
  · rw [h] at hy
    rcases List.mem_cons.mp hy with rfl | hy
    · rw [h, List.lookup_cons]; rfl
    · rw [List.mem_singleton.mp hy]; exact a
theorem OneN.cells {ns : List (Str × NameKind)} {x : Str} (h : OneN ns x) (k : Heap) : pushCells k ns = k := by
  rcases h with h | ⟨h, _⟩ <;> rw [h] <;> rfl
section
variable {X : Cx} {k : Nat}
end
end Own

namespace Own
open PySem PySem.Spec PyProof.Rows L2 SX RZ
/-! ### a plain name that takes what a comprehension has made -/
/-- what holds in each frame that a comprehension may run in -/
abbrev InBlk (X : Cx) (scope : Scope) (p : Cx → Prop) : Prop := ∀ (s : Shared) (H : Hp) (C : Addr) (cl : List (Str × Addr)) (fp : List Addr), p (X.blk s H scope (compEnvC scope cl C X.env) fp)
section
variable {X : Cx}
/-- the name takes the new object while the comprehension's frame is still there -/
theorem takes_made {pins : List (Addr × Obj)} {σ : L2.St} {H : Hp} {s : Shared} {i : Nat} {m : Str → Option Value} {y : Str} {py : Pos} {L C : Addr} {D : Ends} (I : Inv X pins σ H s) (hN : X.N.Nodup) (hy : X.N[i]? = some y) (hyl : X.env.scope.names.lookup y = some .local) (hn : s.heap.Ns C m) (hf : FpOk X pins H C)
    (hq : gName i (.ref L) σ H D.nx) : compPost (model X.prog X.w) X.A X.xe (some (assign (.Name y py) X.env)) (fun _ s' => SP X pins D .next s') (.ref L) C (.ok .next) s := by
  show wpAny _ _ (assign (.Name y py) X.env (.ref L)) _ _ _
  have loc : X.env.scope.names.lookup y = some .local ∨ X.env.scope.names.lookup y = some .cell := .inl hyl
  refine wpAny_assign_Name (store_ok2 (v := V.ref L) I hN hy loc rfl (fun s2 I2 ⟨a, sb, ha⟩ => ⟨m, hn.sameBut sb ?_, fun h3 sb3 => ⟨_, H, ?_, hq⟩⟩) (.inr hyl))
  · rcases ha with z | z
    · exact fun e => hf.2.1 (e.trans z)
    · exact fun e => hf.2.2.2.2.1 y a z e.symm
  · exact I2.turned (t' := s2.toks) (fun b o hb e => (sb3.2 b hb).trans e) hf.1 hf.2.1 hf.2.2.2.1 hf.2.2.2.2.1 hf.2.2.2.2.2
theorem sw_trueD {kx vx : Expr} {gs : List Comprehension} {scope : Scope} {pos py : Pos} {y : Str} {l : Nat} {env : Env} (hk : env.scope.kind = .function) (hy : env.scope.names.lookup y = some .local) (hl : (py.line == pos.line) = true)
    (ha : (scope.names.any fun z => z.1 == y && (z.2 == .local || z.2 == .cell)) = false) : swapsWith (.DictComp kx vx gs scope pos) (some (.Name y py)) l env = pure true := by
  have e1 : env.kindOf y = some .local := hy
  have e2 : env.blockKind = .function := by
    show (match env.scope.kind with | k => _) = _
    unfold Env.blockKind at *
    rw [hk]
    rfl
  simp only [swapsWith, e1, e2, Expr.pos, hl, ha]
  rfl
theorem ps_setDc {i : Nat} {y : Str} {py : Pos} {kx vx tg iter : Expr} {ifs : List Expr} {scope : Scope} {own : List (Str × Nat)} {pos spos : Pos} {wi : TI} {g : TG} {tt : TT} {tk tv : TE} (hc : X.calm = true) (hN : X.N.Nodup) (hy : X.N[i]? = some y) (hyl : X.env.scope.names.lookup y = some .local)
    (hsw : swapsWith (.DictComp kx vx [⟨tg, iter, ifs, 0⟩] scope pos) (some (.Name y py)) spos.line X.env = pure true) (hi : PI X tg iter wi) (ok : BlkOk X.N X.env.scope scope own)
    (hg : InBlk X scope fun B => PG B tg g) (ht : InBlk X scope fun B => PTs B ifs tt) (hk : InBlk X scope fun B => PE B kx tk) (he : InBlk X scope fun B => PE B vx tv) (hs : ∀ x, foldedSetIterable iter X.env x = pure x := by intro _; rfl) :
    PS X (.Assign [.Name y py] (.DictComp kx vx [⟨tg, iter, ifs, 0⟩] scope pos) spos) (tAsg (tDc wi g tt tk tv (own.map (·.2))) (gName i)) := by
  refine ⟨fun pins s σ H D I h => ?_⟩
  have made := dc_core (pos := pos) (pos' := firstIterPos [⟨tg, iter, ifs, 0⟩] pos) (use := some (assign (.Name y py) X.env)) (Qf := fun _ s' => SP X pins D .next s') hc hN I hi ok hg ht hk he hs (Q := fun x H1 => gName i x σ H1 D.nx) h
    fun L C s' m H' I' q hn f => takes_made I' hN hy hyl hn f q
  rw [exec_Assign_Name_used _ _ _ _ hsw]
  exact wpAny_bind (wpAny_standAt (wpAny_bind (wpAny_bind (thn made fun _ s' hq => wpAny_pure (wpAny_pure hq)))))
end
/-! ### d.setdefault(k, x), the keys tuples of ints and texts -/
end Own

namespace Own
open PySem PySem.Spec PyProof.Rows L2 SX GenW
section
variable {X : Cx} {k : Nat} {x : Str} {iter : Expr} {scope : Scope} {p1 p2 pos : Pos} {tg : TGenN}
end
/-! ### calls of generator methods -/
section
variable {X : Cx} {k n : Nat} {f C : Addr} {fd : FuncData} {ps ks : List Str} {sp : SpN} {ds : List Value} {dvs : List V} {m : Str} {pos apos : Pos} {o e : Expr} {es : List Expr} {kws : List Keyword} {ta : TE} {t tk : TA} {g : List Value → List Value → List Value} {gV : List V → List V → List V} {pl : Sem Bool}
end
end Own

namespace Own
open PySem PySem.Spec PyProof.Rows L2 SX RZ
/-! ### o.m(k = v): keywords alone -/
section
variable {X : Cx} {CX : CXT} {k : Nat} {f C : Addr} {fd : FuncData} {ps ks : List Str} {sp : Sp} {E : XK} {m : Str} {pos apos : Pos} {o : Expr} {kws : List Keyword} {ta : TE} {tk : TA} {g : List Value → List Value → List Value} {gV : List V → List V → List V} {pl : Sem Bool}
def tMethN0 (C : Addr) (m : Str) (j : Nat) (sp : Sp) (gV : List V → List V → List V) (E : XK) (ta : TE) (tk : TA) : TE := fun σ H Q => ta σ H fun x H1 => ∃ a dx fs, x = .ref a ∧ H1 a = some (.ins C dx fs) ∧ fs.lookup m = none ∧
  tk σ H1 fun zs H2 => zs.length = j ∧ sp (gV [x] zs) H2 Q E
theorem pe_methN0 (he : PE X o ta) (c : Cls X.K C) (hm : Meth X.K C m f) (F : FnOk X.prog X.w X.K X.mg X.base CX k f fd ps sp) (hr : Room k X.A) (hb : KBn X.K fd ps 1 ks g gV) (hx : Passes CX X E) (hkw : PK X kws tk)
    (hall : (backToKw pos (keywordEach kws X.env)).all (·.1.isSome) = true := by rfl) (hks : (backToKw pos (keywordEach kws X.env)).filterMap (·.1) = ks := by rfl)
    (hpl : ((backTo pos (starEach [] X.env)).any (·.1) || (backToKw pos (keywordEach kws X.env)).any (·.1.isNone)) = false := by rfl)
    (ht : eval (.Call (.Attribute o m apos) [] kws pos) X.env = (do
      let ov ← eval o X.env
      standAt apos.atName
      let (f, first) ← holding [ov] (getMethod ov m pl)
      callWith pos f first (backTo pos (starEach [] X.env)) (backToKw pos (keywordEach kws X.env))) := by rfl) :
    PE X (.Call (.Attribute o m apos) [] kws pos) (tMethN0 C m ks.length sp gV E ta tk) := by
  refine ⟨fun pins s σ H Q I h => ?_⟩
  refine PySem.W.methodCall_KW (pl := pl) (thn (he.run pins s σ H _ I h) ?_) ht
  rintro u s1 ⟨_, H1, I1, rx, a, dx, fs, rfl, lies, free, q⟩
  have eu : u = .ref a := rx
  subst eu
  refine getmeth_ok I1 lies c hm free (PySem.W.callWith_KW0 (first := [.ref a]) (h₀ := X.base) I.ok.mod.kin hm.kp hall (thn (hkw.run pos pins s1 σ H1 _ I1 q) ?_) hpl)
  rintro ws s3 ⟨zs, H3, I3, rz, l2, asks⟩
  refine ⟨I3.kIn, ?_⟩
  rw [hks]
  exact run_fnN (us := [Value.ref a]) (vs := [V.ref a]) F hr hb hx I3 (.cons rfl .nil) rz rfl l2 asks
end
end Own

namespace Own
open PySem PySem.Spec PyProof.Rows L2 SX
/-! ### a place in a filled row -/
/-! ### lengths and letters along fills -/
/-! ### turns done one after the other -/
/-! ### promises -/
/-- rows of items as they lie; the sizes beside them -/
def LstsN (H : Hp) (qs : List Addr) (l : List (List (List Nat))) : Prop := qs.length = l.length ∧ ∀ (i : Nat) (q : Addr) (its : List (List Nat)), qs[i]? = some q → l[i]? = some its → H q = some (.lst (its.map tx))
theorem LstsN.same {H H' : Hp} {qs : List Addr} {l : List (List (List Nat))} (h : LstsN H qs l) (s : Same H H') : LstsN H' qs l := ⟨h.1, fun i q its h1 h2 => s _ _ (h.2 i q its h1 h2)⟩
theorem Lsts.n {H : Hp} {r : Addr} {qs : List Addr} {l : List (List (List Nat))} (h : Lsts H r qs l) : LstsN H qs l := ⟨h.1, fun i q its h1 h2 => (h.2 i q its h1 h2).2⟩
end Own

/-! Cnd1: conditions, their texts; patterns as they are checked -/
namespace Cnd
inductive Cd where
  | named (n : List Nat)
  | mat (p : List Nat)
  | len (r m : Nat)
  | tpl (k : Nat) (a b x y : List Nat)
  | no (c : Cd)
  | two (w : Bool) (a b : Cd)
  deriving DecidableEq
/-! ### the scan of a pattern -/
def can (gs : List Nat) (b s d : Nat) : Bool :=
  if s = 42 then decide (b ∈ gs) || (decide (b = 46) || decide (b = 41)) else if s = 41 then decide (0 < d) else decide (s ∈ gs) || (decide (s = 46) || (decide (s = 124) || decide (s = 40)))
/-- depth behind a sign -/
def dep (d s : Nat) : Nat := if s = 40 then d + 1 else if s = 41 then d - 1 else d
def scan (gs : List Nat) : Nat → Nat → List Nat → Option (Nat × Nat)
  | b, d, [] => some (b, d)
  | b, d, s :: p => if can gs b s d then scan gs s (dep d s) p else none
theorem scan_app {gs : List Nat} : ∀ {p q : List Nat} {b d : Nat}, scan gs b d (p ++ q) = (scan gs b d p).bind fun z => scan gs z.1 z.2 q
  | [], q, b, d => rfl
  | s :: p, q, b, d => by
    show (if can gs b s d then scan gs s (dep d s) (p ++ q) else none) = (if can gs b s d then scan gs s (dep d s) p else none).bind _
    by_cases h : can gs b s d = true
    · rw [if_pos h, if_pos h, scan_app]
    · rw [if_neg h, if_neg h]; rfl
/-- the place of the parenthesis that closes, counted from i -/
def clo : Nat → List Nat → Nat → Option Nat
  | _, [], _ => none
  | d, s :: p, i => if dep d s = 0 then some i else clo (dep d s) p (i + 1)
/-- a pattern in itself -/
structure Pat (gs p : List Nat) : Prop where
  scn : ∀ b d, ∃ b', scan gs b d p = some (b', d)
  bal : ∀ d q i, clo (d + 1) (p ++ q) i = clo (d + 1) q (i + p.length)
  low : ∀ c ∈ p, c < 128
/-- signs that are no parentheses -/
theorem bal_plain : ∀ {p : List Nat}, (∀ c ∈ p, c ≠ 40 ∧ c ≠ 41) → ∀ d q i, clo (d + 1) (p ++ q) i = clo (d + 1) q (i + p.length)
  | [], _, d, q, i => rfl
  | s :: p, h, d, q, i => by
    obtain ⟨h1, h2⟩ := h s (List.mem_cons_self ..)
    have e : dep (d + 1) s = d + 1 := by unfold dep; rw [if_neg h1, if_neg h2]
    show (if dep (d + 1) s = 0 then some i else clo (dep (d + 1) s) (p ++ q) (i + 1)) = _
    rw [e, if_neg (Nat.succ_ne_zero _), bal_plain fun c hc => h c (List.mem_cons_of_mem _ hc)]
    congr 1
    rw [List.length_cons]
    omega
theorem clo_at {p q : List Nat} (hb : ∀ d q i, clo (d + 1) (p ++ q) i = clo (d + 1) q (i + p.length)) {i : Nat} : clo 1 (p ++ 41 :: q) i = some (i + p.length) := by
  rw [hb 0 (41 :: q) i]
  rfl
theorem Pat.nil {gs : List Nat} : Pat gs [] := ⟨fun b d => ⟨b, rfl⟩, fun d q i => rfl, fun _ h => nomatch h⟩
theorem Pat.app {gs p q : List Nat} (h : Pat gs p) (k : Pat gs q) : Pat gs (p ++ q) := by
  refine ⟨fun b d => ?_, fun d r i => ?_, fun c hc => (List.mem_append.mp hc).elim (h.low c) (k.low c)⟩
  · obtain ⟨b1, e1⟩ := h.scn b d
    obtain ⟨b2, e2⟩ := k.scn b1 d
    exact ⟨b2, by rw [scan_app, e1]; exact e2⟩
  · rw [List.append_assoc, h.bal, k.bal, List.length_append, Nat.add_assoc]
/-- letters, points and bars stand anywhere -/
def free (gs : List Nat) (s : Nat) : Prop := s ∈ gs ∨ s = 46 ∨ s = 124
theorem one_scan {gs : List Nat} (az : ∀ c ∈ gs, 97 ≤ c ∧ c ≤ 122) {s : Nat} (h : free gs s) (b d : Nat) : scan gs b d [s] = some (s, d) := by
  have hs : s ≠ 42 ∧ s ≠ 41 ∧ s ≠ 40 ∧ s < 128 := by
    rcases h with h | rfl | rfl
    · have := az s h; omega
    · decide
    · decide
  have e1 : can gs b s d = true := by
    unfold can
    rw [if_neg hs.1, if_neg hs.2.1]
    rcases h with h | rfl | rfl
    · rw [decide_eq_true h]; rfl
    · simp
    · simp
  have e2 : dep d s = d := by unfold dep; rw [if_neg hs.2.2.1, if_neg hs.2.1]
  show (if can gs b s d then scan gs s (dep d s) [] else none) = _
  rw [e1, if_pos rfl, e2]
  rfl
theorem Pat.one {gs : List Nat} (az : ∀ c ∈ gs, 97 ≤ c ∧ c ≤ 122) {s : Nat} (h : free gs s) : Pat gs [s] := by
  have hs : s ≠ 42 ∧ s ≠ 41 ∧ s ≠ 40 ∧ s < 128 := by
    rcases h with h | rfl | rfl
    · have := az s h; omega
    · decide
    · decide
  exact ⟨fun b d => ⟨s, one_scan az h b d⟩, bal_plain fun c hc => by rw [List.mem_singleton.mp hc]; exact ⟨hs.2.2.1, hs.2.1⟩, fun c hc => by rw [List.mem_singleton.mp hc]; exact hs.2.2.2⟩
theorem bal_par {p : List Nat} (hb : ∀ d q i, clo (d + 1) (p ++ q) i = clo (d + 1) q (i + p.length)) : ∀ d q i, clo (d + 1) ((40 :: (p ++ [41])) ++ q) i = clo (d + 1) q (i + (40 :: (p ++ [41])).length) := fun d q i => by
  show (if dep (d + 1) 40 = 0 then some i else clo (dep (d + 1) 40) ((p ++ [41]) ++ q) (i + 1)) = _
  have e : dep (d + 1) 40 = d + 1 + 1 := rfl
  rw [e, if_neg (Nat.succ_ne_zero _), List.append_assoc, hb]
  show (if dep (d + 1 + 1) 41 = 0 then some _ else clo (dep (d + 1 + 1) 41) q _) = _
  have e2 : dep (d + 1 + 1) 41 = d + 1 := rfl
  rw [e2, if_neg (Nat.succ_ne_zero _)]
  congr 1
  rw [List.length_cons, List.length_append]
  show _ = i + (p.length + 1 + 1)
  omega
theorem Pat.par {gs p : List Nat} (h : Pat gs p) : Pat gs (40 :: (p ++ [41])) := by
  refine ⟨fun b d => ⟨41, ?_⟩, bal_par h.bal, fun c hc => ?_⟩
  · obtain ⟨b1, e1⟩ := h.scn 40 (d + 1)
    show (if can gs b 40 d then scan gs 40 (d + 1) (p ++ [41]) else none) = _
    have e0 : can gs b 40 d = true := by unfold can; simp
    rw [e0, if_pos rfl, scan_app, e1]
    show (if can gs b1 41 (d + 1) then scan gs 41 (dep (d + 1) 41) [] else none) = _
    have e2 : can gs b1 41 (d + 1) = true := by unfold can; simp
    rw [e2, if_pos rfl]
    rfl
  · rcases List.mem_cons.mp hc with rfl | hc
    · decide
    · rcases List.mem_append.mp hc with hc | hc
      · exact h.low c hc
      · rw [List.mem_singleton.mp hc]; decide
/-- ( .. )* -/
theorem Pat.star {gs p : List Nat} (h : Pat gs p) : Pat gs ((40 :: (p ++ [41])) ++ [42]) := by
  refine ⟨fun b d => ⟨42, ?_⟩, fun d q i => ?_, fun c hc => ?_⟩
  · have h1 : scan gs b d (40 :: (p ++ [41])) = some (41, d) := by
      obtain ⟨b1, e1⟩ := h.scn 40 (d + 1)
      show (if can gs b 40 d then scan gs 40 (d + 1) (p ++ [41]) else none) = _
      have e0 : can gs b 40 d = true := by unfold can; simp
      rw [e0, if_pos rfl, scan_app, e1]
      show (if can gs b1 41 (d + 1) then scan gs 41 (dep (d + 1) 41) [] else none) = _
      have e2 : can gs b1 41 (d + 1) = true := by unfold can; simp
      rw [e2, if_pos rfl]
      rfl
    rw [scan_app, h1]
    show (if can gs 41 42 d then scan gs 42 (dep d 42) [] else none) = _
    have e2 : can gs 41 42 d = true := by unfold can; simp
    rw [e2, if_pos rfl]
    rfl
  · rw [List.append_assoc, h.par.bal, bal_plain (p := [42]) (fun c hc => by rw [List.mem_singleton.mp hc]; decide), List.length_append, Nat.add_assoc]
  · rcases List.mem_append.mp hc with hc | hc
    · exact h.par.low c hc
    · rw [List.mem_singleton.mp hc]; decide
end Cnd
namespace Cnd
theorem scan_at {gs : List Nat} {b d : Nat} {z : Nat × Nat} : ∀ {p : List Nat} (_ : scan gs b d p = some z) (i : Nat), ∃ b' d', scan gs b d (p.take i) = some (b', d')
  | [], h, i => ⟨b, d, by rw [List.take_nil]; rfl⟩
  | s :: p, h, i => by
    have e := List.take_append_drop i (s :: p)
    rw [← e, scan_app] at h
    cases q : scan gs b d ((s :: p).take i) with
    | none => rw [q] at h; cases h
    | some y => exact ⟨y.1, y.2, rfl⟩
theorem scan_step {gs : List Nat} {b0 d0 b d s i : Nat} {z : Nat × Nat} {p : List Nat} (h : scan gs b0 d0 p = some z) (hi : scan gs b0 d0 (p.take i) = some (b, d)) (hs : p[i]? = some s) :
    can gs b s d = true ∧ scan gs b0 d0 (p.take (i + 1)) = some (s, dep d s) := by
  have et : p.take (i + 1) = p.take i ++ [s] := by rw [List.take_add_one, hs]; rfl
  obtain ⟨b2, d2, h2⟩ := scan_at h (i + 1)
  rw [et, scan_app, hi] at h2
  have h3 : (if can gs b s d then scan gs s (dep d s) [] else none) = some (b2, d2) := h2
  by_cases c : can gs b s d = true
  · refine ⟨c, ?_⟩
    rw [et, scan_app, hi]
    show (if can gs b s d then scan gs s (dep d s) [] else none) = _
    rw [if_pos c]
    rfl
  · rw [if_neg c] at h3; cases h3
end Cnd

/-! Cnd2: the texts of conditions; how they are read: what has begun, what is left -/
namespace Cnd
def dec (n : Nat) : List Nat := if n < 10 then [48 + n] else [48 + n / 10, 48 + n % 10]
abbrev wdT (w : Bool) : List Nat := if w then [97, 110, 100] else [111, 114]
abbrev notT : List Nat := [110, 111, 116, 32]
abbrev namT : List Nat := [110, 97, 109, 101, 100, 32]
abbrev matT : List Nat := [109, 97, 116, 99, 104]
abbrev lenT : List Nat := [108, 101, 110, 103, 116, 104]
def kwT : Nat → List Nat
  | 0 => [115, 97, 109, 101]
  | 1 => [98, 101, 103, 105, 110, 115]
  | 2 => [101, 110, 100, 115]
  | _ => [108, 101, 115, 115]
/-- the text -/
def cTx : Cd → List Nat
  | .named n => namT ++ n
  | .mat p => matT ++ (40 :: (p ++ [41]))
  | .len r m => lenT ++ (40 :: ((dec r ++ 44 :: dec m) ++ [41]))
  | .tpl k a b _ _ => kwT k ++ (40 :: ((a ++ 44 :: b) ++ [41]))
  | .no c => notT ++ cTx c
  | .two w a b => 40 :: (cTx a ++ (32 :: (wdT w ++ (32 :: (cTx b ++ [41])))))
def leaf : Cd → Bool
  | .no _ => false
  | .two _ _ _ => false
  | _ => true
inductive Fr where
  | no
  | lft (w : Bool) (r : Cd)
  | rgt (w : Bool) (l : Cd)
/-- what still comes behind a condition; the innermost first -/
def rest (z : List Nat) : List Fr → List Nat
  | [] => z
  | .no :: fs => rest z fs
  | .lft w r :: fs => 32 :: (wdT w ++ (32 :: (cTx r ++ (41 :: rest z fs))))
  | .rgt _ _ :: fs => 41 :: rest z fs
def plug : List Fr → Cd → Cd
  | [], c => c
  | .no :: fs, c => plug fs (.no c)
  | .lft w r :: fs, c => plug fs (.two w c r)
  | .rgt w l :: fs, c => plug fs (.two w l c)
/-- what begins at the beginning of a condition; the outermost first -/
def newF : Cd → List Fr
  | .no c => .no :: newF c
  | .two w a b => .lft w b :: newF a
  | _ => []
def leafOf : Cd → Cd
  | .no c => leafOf c
  | .two _ a _ => leafOf a
  | c => c
/-- the signs of what begins: true for not, false for a parenthesis -/
def marks : Cd → List Bool
  | .no c => true :: marks c
  | .two _ a _ => false :: marks a
  | _ => []
abbrev mkT (b : Bool) : List Nat := if b then notT else [40]
def preT (l : List Bool) : List Nat := l.flatMap mkT
def markF : Fr → Bool
  | .no => true
  | _ => false
theorem marks_new : ∀ c : Cd, marks c = (newF c).map markF
  | .no c => by show true :: marks c = true :: (newF c).map markF; rw [marks_new c]
  | .two w a b => by show false :: marks a = false :: (newF a).map markF; rw [marks_new a]
  | .named _ | .mat _ | .len _ _ | .tpl _ _ _ _ _ => rfl
theorem leaf_of : ∀ c : Cd, leaf (leafOf c) = true
  | .no c => leaf_of c
  | .two _ a _ => leaf_of a
  | .named _ | .mat _ | .len _ _ | .tpl _ _ _ _ _ => rfl
theorem text_of {z : List Nat} : ∀ (c : Cd) (fs : List Fr), cTx c ++ rest z fs = preT (marks c) ++ (cTx (leafOf c) ++ rest z ((newF c).reverse ++ fs))
  | .no c, fs => by
    show notT ++ cTx c ++ rest z fs = (mkT true ++ preT (marks c)) ++ (cTx (leafOf c) ++ rest z ((Fr.no :: newF c).reverse ++ fs))
    rw [List.reverse_cons, List.append_assoc, List.append_assoc, List.append_assoc]
    show notT ++ (cTx c ++ rest z (.no :: fs)) = notT ++ _
    rw [text_of c (.no :: fs)]
    rfl
  | .two w a b, fs => by
    show (40 :: (cTx a ++ (32 :: (wdT w ++ (32 :: (cTx b ++ [41])))))) ++ rest z fs = (mkT false ++ preT (marks a)) ++ (cTx (leafOf a) ++ rest z ((Fr.lft w b :: newF a).reverse ++ fs))
    rw [List.reverse_cons, List.append_assoc (newF a).reverse]
    have e := text_of (z := z) a (.lft w b :: fs)
    show _ = (mkT false ++ preT (marks a)) ++ (cTx (leafOf a) ++ rest z ((newF a).reverse ++ (.lft w b :: fs)))
    rw [List.append_assoc, ← e]
    have e2 : (40 :: (cTx a ++ (32 :: (wdT w ++ (32 :: (cTx b ++ [41])))))) ++ rest z fs = 40 :: (cTx a ++ (32 :: (wdT w ++ (32 :: (cTx b ++ (41 :: rest z fs)))))) := by
      rw [List.cons_append, List.append_assoc, List.cons_append, List.append_assoc, List.cons_append, List.append_assoc]
      rfl
    exact e2
  | .named _, _ | .mat _, _ | .len _ _, _ | .tpl _ _ _ _ _, _ => rfl
theorem plug_of : ∀ (c : Cd) (fs : List Fr), plug ((newF c).reverse ++ fs) (leafOf c) = plug fs c
  | .no c, fs => by
    show plug ((Fr.no :: newF c).reverse ++ fs) (leafOf c) = _
    rw [List.reverse_cons, List.append_assoc]
    exact plug_of c (.no :: fs)
  | .two w a b, fs => by
    show plug ((Fr.lft w b :: newF a).reverse ++ fs) (leafOf a) = _
    rw [List.reverse_cons, List.append_assoc]
    exact plug_of a (.lft w b :: fs)
  | .named _, _ | .mat _, _ | .len _ _, _ | .tpl _ _ _ _ _, _ => rfl
/-- how much is left to read -/
def size : Cd → Nat
  | .no c => size c + 1
  | .two _ a b => size a + size b + 1
  | _ => 1
theorem size_pos : ∀ c : Cd, 0 < size c
  | .no c => Nat.succ_pos _
  | .two _ a b => Nat.succ_pos _
  | .named _ | .mat _ | .len _ _ | .tpl _ _ _ _ _ => Nat.one_pos
def left : List Fr → Nat
  | [] => 0
  | .lft _ r :: fs => size r + left fs
  | _ :: fs => left fs
theorem left_app : ∀ (a b : List Fr), left (a ++ b) = left a + left b
  | [], b => (Nat.zero_add _).symm
  | .no :: a, b => left_app a b
  | .rgt _ _ :: a, b => left_app a b
  | .lft _ r :: a, b => by show size r + left (a ++ b) = size r + left a + left b; rw [left_app a b]; omega
theorem left_new : ∀ c : Cd, left (newF c).reverse < size c
  | .no c => by
    show left (Fr.no :: newF c).reverse < size c + 1
    rw [List.reverse_cons, left_app]
    have := left_new c
    show _ + 0 < _
    omega
  | .two w a b => by
    show left (Fr.lft w b :: newF a).reverse < size a + size b + 1
    rw [List.reverse_cons, left_app]
    have := left_new a
    show _ + (size b + 0) < _
    omega
  | .named _ | .mat _ | .len _ _ | .tpl _ _ _ _ _ => Nat.one_pos
/-- a leaf begins neither with not nor with a parenthesis -/
theorem lead : ∀ {c : Cd} (_ : leaf c = true) (z : List Nat), ¬ notT <+: (cTx c ++ z) ∧ ¬ [40] <+: (cTx c ++ z)
  | .named n, _, z => ⟨fun ⟨t, e⟩ => by simp [cTx] at e, fun ⟨t, e⟩ => by simp [cTx] at e⟩
  | .mat p, _, z => ⟨fun ⟨t, e⟩ => by simp [cTx] at e, fun ⟨t, e⟩ => by simp [cTx] at e⟩
  | .len r m, _, z => ⟨fun ⟨t, e⟩ => by simp [cTx] at e, fun ⟨t, e⟩ => by simp [cTx] at e⟩
  | .tpl k a b _ _, _, z => by
    match k with
    | 0 | 1 | 2 | _ + 3 => exact ⟨fun ⟨t, e⟩ => by simp [cTx, kwT] at e, fun ⟨t, e⟩ => by simp [cTx, kwT] at e⟩
  | .no _, h, _ => by cases h
  | .two _ _ _, h, _ => by cases h
end Cnd
namespace Cnd
/-- the word of a leaf that is no name, and what stands between its parentheses -/
def kd : Cd → List Nat
  | .mat _ => matT
  | .len _ _ => lenT
  | .tpl k _ _ _ _ => kwT k
  | _ => []
def inn : Cd → List Nat
  | .mat p => p
  | .len r m => dec r ++ 44 :: dec m
  | .tpl _ a b _ _ => a ++ 44 :: b
  | _ => []
def isNamed : Cd → Bool
  | .named _ => true
  | _ => false
theorem leaf_text : ∀ {c : Cd} (_ : leaf c = true) (_ : isNamed c = false), cTx c = kd c ++ (40 :: (inn c ++ [41]))
  | .mat _, _, _ | .len _ _, _, _ | .tpl _ _ _ _ _, _, _ => rfl
  | .named _, _, h => by cases h
  | .no _, h, _ => by cases h
  | .two _ _ _, h, _ => by cases h
theorem kd_no : ∀ (c : Cd), 40 ∉ kd c
  | .mat _ => by show 40 ∉ matT; decide
  | .len _ _ => by show 40 ∉ lenT; decide
  | .tpl 0 _ _ _ _ => by show 40 ∉ kwT 0; decide
  | .tpl 1 _ _ _ _ => by show 40 ∉ kwT 1; decide
  | .tpl 2 _ _ _ _ => by show 40 ∉ kwT 2; decide
  | .tpl (_ + 3) _ _ _ _ => by show 40 ∉ kwT 3; decide
  | .named _ => fun h => nomatch h
  | .no _ => fun h => nomatch h
  | .two _ _ _ => fun h => nomatch h
theorem not_named : ∀ {c : Cd} (_ : leaf c = true) (_ : isNamed c = false) (z : List Nat), ¬ namT <+: (cTx c ++ z)
  | .mat p, _, _, z => fun ⟨t, e⟩ => by simp [cTx] at e
  | .len r m, _, _, z => fun ⟨t, e⟩ => by simp [cTx] at e
  | .tpl k a b _ _, _, _, z => by
    match k with
    | 0 | 1 | 2 | _ + 3 => exact fun ⟨t, e⟩ => by simp [cTx, kwT] at e
  | .named _, _, h, _ => by cases h
  | .no _, h, _, _ => by cases h
  | .two _ _ _, h, _, _ => by cases h
theorem dec_plain {n : Nat} : ∀ c ∈ dec n, c ≠ 40 ∧ c ≠ 41 := by
  intro c hc
  unfold dec at hc
  split at hc
  · rw [List.mem_singleton.mp hc]; omega
  · simp only [List.mem_cons, List.not_mem_nil, or_false] at hc
    rcases hc with rfl | rfl <;> omega
end Cnd
namespace Cnd
theorem rest_head {z : List Nat} (hz : ∀ d r, z = d :: r → ¬ (97 ≤ d ∧ d ≤ 122)) : ∀ (fs : List Fr) (d : Nat) (r : List Nat), rest z fs = d :: r → ¬ (97 ≤ d ∧ d ≤ 122)
  | [], d, r, h => hz d r h
  | .no :: fs, d, r, h => rest_head hz fs d r h
  | .lft w c :: fs, d, r, h => by
    have h : 32 :: (wdT w ++ (32 :: (cTx c ++ (41 :: rest z fs)))) = d :: r := h
    injection h with h1 _
    omega
  | .rgt w c :: fs, d, r, h => by
    have h : 41 :: rest z fs = d :: r := h
    injection h with h1 _
    omega
def dpt : Cd → Nat
  | .no c => dpt c + 1
  | .two _ a b => max (dpt a) (dpt b) + 1
  | _ => 1
theorem dpt_plug : ∀ (fs : List Fr) (c : Cd), dpt c ≤ dpt (plug fs c)
  | [], c => Nat.le_refl _
  | .no :: fs, c => Nat.le_trans (Nat.le_succ _) (dpt_plug fs (.no c))
  | .lft w r :: fs, c => Nat.le_trans (Nat.le_trans (Nat.le_max_left _ _) (Nat.le_succ _)) (dpt_plug fs (.two w c r))
  | .rgt w l :: fs, c => Nat.le_trans (Nat.le_trans (Nat.le_max_right _ _) (Nat.le_succ _)) (dpt_plug fs (.two w l c))
theorem dpt_rgt : ∀ {fs : List Fr} {c : Cd} {w : Bool} {l : Cd}, Fr.rgt w l ∈ fs → dpt l ≤ dpt (plug fs c)
  | f :: fs, c, w, l, h => by
    rcases List.mem_cons.mp h with e | h2
    · subst e
      exact Nat.le_trans (Nat.le_trans (Nat.le_max_left _ _) (Nat.le_succ _)) (dpt_plug fs (.two w l c))
    · cases f with
      | no => exact dpt_rgt (c := .no c) h2
      | lft w2 r => exact dpt_rgt (c := .two w2 c r) h2
      | rgt w2 l2 => exact dpt_rgt (c := .two w2 l2 c) h2
end Cnd

namespace Own
open PySem PySem.Spec PyProof.Rows L2 SX
/-! ### conditions as they lie; texts cut at a sign -/
theorem sub_S {xs : List Nat} {i j : Nat} : Builtin.Str.strSub (S xs) i j = S ((xs.drop i).take (j - i)) := by
  have h := StrLaws.strSub_toList (S xs) i j
  show _ = (⟨_⟩ : Str)
  have : (Builtin.Str.strSub (S xs) i j) = ⟨((xs.drop i).take (j - i)).toArray⟩ := by
    cases e : Builtin.Str.strSub (S xs) i j with
    | mk a =>
      rw [e] at h
      congr 1
      exact Array.toList_inj.mp h
  exact this
theorem idx_app {a b : List Nat} {c : Nat} (h : c ∉ a) : (a ++ c :: b).idxOf c = a.length := by
  induction a with
  | nil => simp [List.idxOf_cons]
  | cons x a ih =>
    have hx : x ≠ c := fun e => h (by rw [e]; exact List.mem_cons_self ..)
    rw [List.cons_append, List.idxOf_cons, ih fun z => h (List.mem_cons_of_mem _ z), beq_eq_false_iff_ne.mpr hx]
    rfl
theorem part_at {a b : List Nat} {c : Nat} (h : c ∉ a) : (Txt.partition (S (a ++ c :: b)) (S [c])).1 = S a := by
  obtain ⟨r, e⟩ := occ1 (a := a ++ c :: b) (c := c) (List.mem_append_right _ (List.mem_cons_self ..))
  have e2 := idx_app (b := b) h
  unfold Txt.partition
  rw [e, e2]
  show Builtin.Str.strSub _ 0 a.length = S a
  rw [sub_S, List.drop_zero, Nat.sub_zero, List.take_left]
theorem split_two {a b : List Nat} {c : Nat} (ha : c ∉ a) (hb : c ∉ b) (h256 : c < 256) : Txt.split (S (a ++ c :: b)) (S [c]) = [S a, S b] := by
  have hn : (a ++ c :: b).count c = 1 := by
    rw [List.count_append, List.count_cons_self, List.count_eq_zero_of_not_mem ha, List.count_eq_zero_of_not_mem hb]
  have hc := count_S (a ++ c :: b) c
  rw [hn] at hc
  have e2 := idx_app (b := b) ha
  have hl : (S (a ++ c :: b)).length = a.length + (b.length + 1) := by rw [S_len, List.length_append, List.length_cons]
  rcases StrLaws.occ_head (S (a ++ c :: b)) (S [c]) ((S (a ++ c :: b)).length + 1) (Nat.succ_pos _) with ⟨e0, _⟩ | ⟨i, r, e, hi, hk2⟩
  · unfold Txt.count at hc
    rw [e0] at hc
    cases hc
  · unfold Txt.count at hc
    rw [e] at hc
    have hr : r = [] := by
      cases r with
      | nil => rfl
      | cons x r =>
        have : ((i :: x :: r).length : Int) = 1 := hc
        rw [List.length_cons, List.length_cons] at this
        omega
    subst hr
    have h1 : (a ++ c :: b)[i]? = some c := (StrLaws.subAt_one (S (a ++ c :: b)) c i).mp hi
    have ei := idx_of (a ++ c :: b) i h1 fun k lt q => hk2 k lt ((StrLaws.subAt_one (S (a ++ c :: b)) c k).mpr q)
    have ei : i = a.length := by rw [← e2]; exact ei.symm
    subst ei
    unfold Txt.split
    rw [if_neg (by
      rw [Bool.or_eq_true, decide_eq_true_iff, decide_eq_true_iff]
      rintro (h | h)
      · rw [hl] at h
        have : (S [c]).length = 1 := rfl
        omega
      · have k1 : Builtin.Str.strKind (S [c]) = 1 := by
          unfold Builtin.Str.strKind
          rw [if_pos (by simp [S, h256])]
        rw [k1] at h
        unfold Builtin.Str.strKind at h
        split at h
        · omega
        · split at h <;> omega), e, if_neg (fun z => by cases z), StrLaws.partsBetween_eq]
    show [Builtin.Str.strSub _ 0 a.length, Builtin.Str.strSub _ (a.length + 1) _] = _
    rw [sub_S, sub_S, List.drop_zero, Nat.sub_zero, List.take_left]
    congr 2
    rw [show (a ++ c :: b).drop (a.length + 1) = b by
      rw [← List.drop_drop, List.drop_left]; rfl, hl]
    congr 1
    exact List.take_of_length_le (by omega)
theorem dec_to : ∀ n, n ≤ 60 → (toString ((n : Nat) : Int) : Str) = S (Cnd.dec n) := by decide +kernel
theorem dec_no : ∀ n, n ≤ 60 → ∀ c ∈ Cnd.dec n, 48 ≤ c ∧ c ≤ 57 := by decide +kernel
abbrev rLenQ (K : PySem.W.Frag) : List V → Hp → VK → Prop := fun xs H Q => ∃ p ys, xs = [.ref p] ∧ (SqL K H p ys ∨ SqT K H p ys) ∧ Q (.int ys.length) H
theorem callLenC {X : Cx} {K : PySem.W.Frag} (h : X.K = K) : CallR X (.builtin "len") (rLenQ K) := by subst h; exact call_len_seq
theorem dec_str {a b : List Nat} : decide (V.str (S a) = V.str (S b)) = decide (a = b) := by
  by_cases e : a = b
  · rw [e, decide_eq_true rfl, decide_eq_true rfl]
  · rw [decide_eq_false e]
    exact decide_eq_false fun h => e (S_inj (V.str.inj h))
theorem inV_tx {m : List Nat} : ∀ {l : List (List Nat)}, inV (tx m) (l.map tx) = decide (m ∈ l)
  | [] => rfl
  | n :: l => by
    have ih := inV_tx (m := m) (l := l)
    have h1 : inV (tx m) ((n :: l).map tx) = (eqV (tx n) (tx m) || inV (tx m) (l.map tx)) := rfl
    have h2 : eqV (tx n) (tx m) = decide (n = m) := by
      show (S n == S m) = _
      by_cases e : n = m
      · rw [e, decide_eq_true rfl, beq_self_eq_true]
      · rw [decide_eq_false e]
        exact beq_eq_false_iff_ne.mpr fun h => e (S_inj h)
    rw [h1, ih, h2]
    by_cases e : n = m
    · subst e; simp
    · simp [e, Ne.symm e]
theorem cutN_mid {xs : List Nat} {a b : Nat} (h : a ≤ b) (hb : b ≤ xs.length) : cutS (S xs) (some ((a : Nat) : Int)) (some ((b : Nat) : Int)) = S ((xs.drop a).take (b - a)) := by
  unfold cutS
  rw [S_len, HT.sIx_nat, HT.sIx_nat, Nat.min_eq_left (show a ≤ xs.length by omega), Nat.min_eq_left hb]
theorem cutN_from {xs : List Nat} {a : Nat} (h : a ≤ xs.length) : cutS (S xs) (some ((a : Nat) : Int)) none = S (xs.drop a) := by
  unfold cutS
  rw [S_len, HT.sIx_nat, HT.sIx_none, Nat.min_eq_left h]
  show (⟨((xs.drop a).take (xs.length - a)).toArray⟩ : Str) = ⟨(xs.drop a).toArray⟩
  rw [List.take_of_length_le (by rw [List.length_drop]; omega)]
theorem dec_lt {a b : Nat} : decide (((a : Nat) : Int) < ((b : Nat) : Int)) = decide (a < b) := by
  by_cases h : a < b
  · rw [decide_eq_true h]; exact decide_eq_true (by omega)
  · rw [decide_eq_false h]; exact decide_eq_false (by omega)
/-! ### conditions as they lie -/
def kwS : Nat → Str
  | 0 => Str.ofString "same"
  | 1 => Str.ofString "begins"
  | 2 => Str.ofString "ends"
  | _ => Str.ofString "less"
theorem kwS_T (k : Nat) : kwS k = S (Cnd.kwT k) := by
  match k with
  | 0 | 1 | 2 | _ + 3 => rfl
abbrev wdS (w : Bool) : Str := if w then Str.ofString "and" else Str.ofString "or"
theorem wdS_T (w : Bool) : wdS w = S (Cnd.wdT w) := by cases w <;> rfl
open Cnd in
/-- a condition as it lies -/
def CdH (H : Hp) : Cd → V → Prop
  | .named n, v => ∃ a, v = .ref a ∧ H a = some (.tup [.str (Str.ofString "named"), tx n])
  | .mat p, v => ∃ a, v = .ref a ∧ H a = some (.tup [.str (Str.ofString "match"), tx p])
  | .len r m, v => ∃ a, v = .ref a ∧ H a = some (.tup [.str (Str.ofString "length"), iv r, iv m])
  | .tpl k _ _ x y, v => ∃ a, v = .ref a ∧ H a = some (.tup [.str (kwS k), tx x, tx y])
  | .no c, v => ∃ a x, v = .ref a ∧ H a = some (.tup [.str (Str.ofString "not"), x]) ∧ CdH H c x
  | .two w c d, v => ∃ a x y, v = .ref a ∧ H a = some (.tup [.str (wdS w), x, y]) ∧ CdH H c x ∧ CdH H d y
theorem CdH.keep {H H' : Hp} (k : ∀ a xs, H a = some (.tup xs) → H' a = some (.tup xs)) : ∀ {c : Cnd.Cd} {v : V}, CdH H c v → CdH H' c v
  | .named _, _, ⟨a, e, h⟩ => ⟨a, e, k _ _ h⟩
  | .mat _, _, ⟨a, e, h⟩ => ⟨a, e, k _ _ h⟩
  | .len _ _, _, ⟨a, e, h⟩ => ⟨a, e, k _ _ h⟩
  | .tpl _ _ _ _ _, _, ⟨a, e, h⟩ => ⟨a, e, k _ _ h⟩
  | .no _, _, ⟨a, x, e, h, i⟩ => ⟨a, x, e, k _ _ h, CdH.keep k i⟩
  | .two _ _ _, _, ⟨a, x, y, e, h, i, j⟩ => ⟨a, x, y, e, k _ _ h, CdH.keep k i, CdH.keep k j⟩
theorem CdH.same {H H' : Hp} {c : Cnd.Cd} {v : V} (h : CdH H c v) (s : Same H H') : CdH H' c v := h.keep fun _ _ e => s _ _ e
theorem CdH.go {H H' : Hp} {r : Addr} {c : Cnd.Cd} {v : V} (h : CdH H c v) (R : Rng H r) (g : Go r H H') : CdH H' c v := h.keep fun a xs e => g.1 _ _ (fun z => by
  obtain ⟨ys, er⟩ := R.ex
  rw [z, er] at e
  cases e) e
theorem CdH.ref {H : Hp} : ∀ {c : Cnd.Cd} {v : V}, CdH H c v → ∃ a k xs, v = .ref a ∧ H a = some (.tup (.str k :: xs))
  | .named _, _, ⟨a, e, h⟩ => ⟨a, _, _, e, h⟩
  | .mat _, _, ⟨a, e, h⟩ => ⟨a, _, _, e, h⟩
  | .len _ _, _, ⟨a, e, h⟩ => ⟨a, _, _, e, h⟩
  | .tpl _ _ _ _ _, _, ⟨a, e, h⟩ => ⟨a, _, _, e, h⟩
  | .no _, _, ⟨a, x, e, h, _⟩ => ⟨a, _, _, e, h⟩
  | .two _ _ _, _, ⟨a, x, y, e, h, _⟩ => ⟨a, _, _, e, h⟩
/-- signs that stand in the text of a template -/
theorem row_signs {gs : List Nat} (hg : Good gs) {its : List (List Nat)} (h : Row gs its) : ∀ c ∈ rTx gs its, c ≠ 40 ∧ c ≠ 41 ∧ c ≠ 44 ∧ c < 128 := by
  intro c hc
  have az : ∀ c ∈ gs, c ≠ 40 ∧ c ≠ 41 ∧ c ≠ 44 ∧ c < 128 := fun c hc => by have := hg.az c hc; omega
  unfold rTx at hc
  split at hc
  · rw [List.mem_singleton.mp hc]; decide
  · obtain ⟨l, hl, hcl⟩ := List.mem_flatten.mp hc
    obtain ⟨x, hx, rfl⟩ := List.mem_map.mp hl
    have hxm : ∀ c ∈ x, c ∈ gs := fun c hc => row_mem h x hx c hc
    unfold iTx at hcl
    split at hcl
    · split at hcl
      · simp only [List.mem_cons, List.not_mem_nil, or_false] at hcl
        rcases hcl with rfl | rfl <;> decide
      · simp only [List.mem_append, List.mem_cons, List.not_mem_nil, or_false] at hcl
        rcases hcl with (rfl | h2) | rfl
        · decide
        · exact az c (hxm c h2)
        · decide
    · exact az c (hxm c hcl)
/-- what is asked of the text of a condition: names of one to eight letters, patterns, numbers, texts of templates (a, b; x, y as templates themselves write them) -/
inductive OkS (gs : List Nat) : Cnd.Cd → Prop
  | named {n : List Nat} : 0 < n.length → n.length ≤ 8 → (∀ c ∈ n, 97 ≤ c ∧ c ≤ 122) → OkS gs (.named n)
  | mat {p : List Nat} : Cnd.Pat gs p → p.length ≤ 1000 → OkS gs (.mat p)
  | len {r m : Nat} : r < m → m ≤ 60 → OkS gs (.len r m)
  | tpl {k : Nat} {a b : List Nat} {i j : List (List Nat)} : k ≤ 3 → Row gs i → Row gs j → i.length ≤ 100 → j.length ≤ 100 → Rd gs i a → Rd gs j b → a.length ≤ 1000 → b.length ≤ 1000 → (∀ c ∈ a, c ≠ 40 ∧ c ≠ 41 ∧ c ≠ 44) → (∀ c ∈ b, c ≠ 40 ∧ c ≠ 41 ∧ c ≠ 44) → OkS gs (.tpl k a b (rTx gs i) (rTx gs j))
  | no {c : Cnd.Cd} : OkS gs c → OkS gs (.no c)
  | two {w : Bool} {c d : Cnd.Cd} : OkS gs c → OkS gs d → OkS gs (.two w c d)
/-- the same, as the law writes it -/
inductive OkC (gs : List Nat) : Cnd.Cd → Prop
  | named {n : List Nat} : 0 < n.length → n.length ≤ 8 → (∀ c ∈ n, 97 ≤ c ∧ c ≤ 122) → OkC gs (.named n)
  | mat {p : List Nat} : Cnd.Pat gs p → p.length ≤ 1000 → OkC gs (.mat p)
  | len {r m : Nat} : r < m → m ≤ 60 → OkC gs (.len r m)
  | tpl {k : Nat} {i j : List (List Nat)} : k ≤ 3 → Row gs i → Row gs j → i.length ≤ 100 → j.length ≤ 100 → OkC gs (.tpl k (rTx gs i) (rTx gs j) (rTx gs i) (rTx gs j))
  | no {c : Cnd.Cd} : OkC gs c → OkC gs (.no c)
  | two {w : Bool} {c d : Cnd.Cd} : OkC gs c → OkC gs d → OkC gs (.two w c d)
theorem OkC.src {gs : List Nat} (hg : Good gs) {c : Cnd.Cd} (h : OkC gs c) : OkS gs c := by
  induction h with
  | named a b c => exact .named a b c
  | mat a b => exact .mat a b
  | len a b => exact .len a b
  | tpl hk hi hj li lj => exact .tpl hk hi hj li lj (rd_r hg.lo hi) (rd_r hg.lo hj) (rTx_len hg hi (by omega)) (rTx_len hg hj (by omega)) (fun c hc => ⟨(row_signs hg hi c hc).1, (row_signs hg hi c hc).2.1, (row_signs hg hi c hc).2.2.1⟩) (fun c hc => ⟨(row_signs hg hj c hc).1, (row_signs hg hj c hc).2.1, (row_signs hg hj c hc).2.2.1⟩)
  | no _ ih => exact .no ih
  | two _ _ i j => exact .two i j
/-! ### conditions as data -/
open Cnd in
def cdD : Cd → PyData
  | .named n => .tuple [.str (Str.ofString "named"), .str (S n)]
  | .mat p => .tuple [.str (Str.ofString "match"), .str (S p)]
  | .len r m => .tuple [.str (Str.ofString "length"), .int (r : Nat), .int (m : Nat)]
  | .tpl k _ _ x y => .tuple [.str (kwS k), .str (S x), .str (S y)]
  | .no c => .tuple [.str (Str.ofString "not"), cdD c]
  | .two w a b => .tuple [.str (wdS w), cdD a, cdD b]
theorem dp_cd {K : PySem.W.Frag} {H : Hp} : ∀ {c : Cnd.Cd} {v : V}, CdH H c v → Dp K H v (cdD c)
  | .named n, _, ⟨a, e, h⟩ => by subst e; exact .tup (sqT h) (.cons (.str _) (.cons (.str _) .nil))
  | .mat p, _, ⟨a, e, h⟩ => by subst e; exact .tup (sqT h) (.cons (.str _) (.cons (.str _) .nil))
  | .len r m, _, ⟨a, e, h⟩ => by subst e; exact .tup (sqT h) (.cons (.str _) (.cons (.int _) (.cons (.int _) .nil)))
  | .tpl k _ _ x y, _, ⟨a, e, h⟩ => by subst e; exact .tup (sqT h) (.cons (.str _) (.cons (.str _) (.cons (.str _) .nil)))
  | .no c, _, ⟨a, x, e, h, i⟩ => by subst e; exact .tup (sqT h) (.cons (.str _) (.cons (dp_cd i) .nil))
  | .two w c d, _, ⟨a, x, y, e, h, i, j⟩ => by subst e; exact .tup (sqT h) (.cons (.str _) (.cons (dp_cd i) (.cons (dp_cd j) .nil)))
open Cnd in
/-- all signs are plain -/
def Low : Cd → Prop
  | .named n => ∀ c ∈ n, c < 128
  | .mat p => ∀ c ∈ p, c < 128
  | .len _ _ => True
  | .tpl _ _ _ x y => (∀ c ∈ x, c < 128) ∧ ∀ c ∈ y, c < 128
  | .no c => Low c
  | .two _ a b => Low a ∧ Low b
theorem OkS.low {gs : List Nat} (hg : Good gs) {c : Cnd.Cd} (h : OkS gs c) : Low c := by
  induction h with
  | named _ _ h => exact fun c hc => by have := h c hc; omega
  | mat h _ => exact h.low
  | len _ _ => trivial
  | tpl _ hi hj _ _ _ _ _ _ _ _ => exact ⟨fun c hc => (row_signs hg hi c hc).2.2.2, fun c hc => (row_signs hg hj c hc).2.2.2⟩
  | no _ ih => exact ih
  | two _ _ i j => exact ⟨i, j⟩
theorem lay_kw (k : Nat) : PyData.canLay0 (.str (kwS k)) = true := by
  match k with
  | 0 | 1 | 2 => decide +kernel
  | _ + 3 => exact (by decide +kernel : PyData.canLay0 (.str (Str.ofString "less")) = true)
theorem lay_wd (w : Bool) : PyData.canLay0 (.str (wdS w)) = true := by cases w <;> decide +kernel
theorem lay_cd : ∀ {c : Cnd.Cd}, Low c → PyData.canLay0 (cdD c) = true
  | .named n, h => by show (PyData.canLay0 (.str (Str.ofString "named")) && (PyData.canLay0 (.str (S n)) && true)) = true; rw [lay_str h]; decide +kernel
  | .mat p, h => by show (PyData.canLay0 (.str (Str.ofString "match")) && (PyData.canLay0 (.str (S p)) && true)) = true; rw [lay_str h]; decide +kernel
  | .len r m, _ => by show (PyData.canLay0 (.str (Str.ofString "length")) && (true && (true && true))) = true; decide +kernel
  | .tpl k _ _ x y, ⟨h, i⟩ => by show (PyData.canLay0 (.str (kwS k)) && (PyData.canLay0 (.str (S x)) && (PyData.canLay0 (.str (S y)) && true))) = true; rw [lay_kw, lay_str h, lay_str i]; rfl
  | .no c, h => by
    have h : Low c := h
    show (PyData.canLay0 (.str (Str.ofString "not")) && (PyData.canLay0 (cdD c) && true)) = true; rw [lay_cd h]; decide +kernel
  | .two w a b, h => by
    have h : Low a ∧ Low b := h
    show (PyData.canLay0 (.str (wdS w)) && (PyData.canLay0 (cdD a) && (PyData.canLay0 (cdD b) && true))) = true; rw [lay_wd, lay_cd h.1, lay_cd h.2]; rfl
theorem dep_cd : ∀ (c : Cnd.Cd), PyData.depth (cdD c) ≤ Cnd.dpt c
  | .named _ | .mat _ | .len _ _ | .tpl _ _ _ _ _ => Nat.le_refl _
  | .no c => by
    have := dep_cd c
    show max 0 (max (PyData.depth (cdD c)) 0) + 1 ≤ Cnd.dpt c + 1
    omega
  | .two w a b => by
    have h1 := dep_cd a
    have h2 := dep_cd b
    show max 0 (max (PyData.depth (cdD a)) (max (PyData.depth (cdD b)) 0)) + 1 ≤ max (Cnd.dpt a) (Cnd.dpt b) + 1
    omega
/-! ### what has begun, as it lies -/
def FrV (H : Hp) : Cnd.Fr → V → Prop
  | .no, v => v = .str (Str.ofString "not")
  | .lft _ _, v => v = .str (Str.ofString "(")
  | .rgt w l, v => ∃ a x, v = .ref a ∧ H a = some (.tup [.str (wdS w), x]) ∧ CdH H l x
theorem FrV.keep {H H' : Hp} (k : ∀ a xs, H a = some (.tup xs) → H' a = some (.tup xs)) : ∀ {f : Cnd.Fr} {v : V}, FrV H f v → FrV H' f v
  | .no, _, h => h
  | .lft _ _, _, h => h
  | .rgt _ _, _, ⟨a, x, e, h, i⟩ => ⟨a, x, e, k _ _ h, i.keep k⟩
def FsOk (gs : List Nat) (fs : List Cnd.Fr) : Prop := ∀ f ∈ fs, match f with
  | .no => True
  | .lft _ r => OkS gs r
  | .rgt _ l => OkS gs l
theorem new_ok {gs : List Nat} {c : Cnd.Cd} (h : OkS gs c) : FsOk gs (Cnd.newF c) ∧ OkS gs (Cnd.leafOf c) := by
  induction h with
  | named a b c => exact ⟨fun _ h => (nomatch h), .named a b c⟩
  | mat a b => exact ⟨fun _ h => (nomatch h), .mat a b⟩
  | len a b => exact ⟨fun _ h => (nomatch h), .len a b⟩
  | tpl a b c d e f g h i j k => exact ⟨fun _ h => (nomatch h), .tpl a b c d e f g h i j k⟩
  | no _ ih => exact ⟨fun f hf => (List.mem_cons.mp hf).elim (fun e => by subst e; trivial) (ih.1 f), ih.2⟩
  | two _ hb i _ => exact ⟨fun f hf => (List.mem_cons.mp hf).elim (fun e => by subst e; exact hb) (i.1 f), i.2⟩
end Own

namespace Own
open PySem PySem.Spec PyProof.Rows L2 SX GenW
/-! ### a run that does not wake some generators does the same whatever they are -/
/-- a frame that only looks like another -/
def dumF (f : Frame) : Frame := .ret (fun _ => .unsupported "asleep") none f.guarded [] f.where_.1 f.where_.2 []
/-- a generator that only looks like another: it cannot be woken -/
def pz : GenState → GenState
  | .suspended _ l c p fs cl => .suspended (fun _ => .unsupported "asleep") l c p (fs.map dumF) cl
  | x => x
def Sus : GenState → Prop
  | .suspended _ _ _ _ _ _ => True
  | _ => False
theorem seen_pz (x : GenState) : (pz x).seen = x.seen := by
  cases x with
  | suspended k l c p fs cl =>
    have e : (fs.map dumF).map Frame.where_ = fs.map Frame.where_ := by
      rw [List.map_map]
      exact List.map_congr_left fun f _ => rfl
    show (GenStatus.suspended, some ((c, p) :: (fs.map dumF).map Frame.where_)) = (GenStatus.suspended, some ((c, p) :: fs.map Frame.where_))
    rw [e]
  | _ => rfl
theorem split_dum : ∀ fs : List Frame, splitAtGen (fs.map dumF) = none
  | [] => rfl
  | f :: fs => by
    show (splitAtGen (fs.map dumF)).map _ = none
    rw [split_dum fs]; rfl
theorem bare_pz {x : GenState} (h : x.bare = true) : (pz x).bare = true := by cases x <;> exact h
/-- the table g, and the table G in which the generators told by O stand in the place of those that only look like them -/
def RelG (O : Nat → Option GenState) (g G : Array GenState) : Prop := G.size = g.size ∧ ∀ i, (∀ x, O i = some x → Sus x ∧ g[i]? = some (pz x) ∧ G[i]? = some x) ∧ (O i = none → G[i]? = g[i]?)
/-- no generator that sleeps has another one under it -/
def CleanG (g : Array GenState) : Prop := ∀ (i : Nat) k l c p fs cl, g[i]? = some (.suspended k l c p fs cl) → splitAtGen fs = none
def CleanE : End → Prop
  | .ret _ => True
  | .susp _ _ _ _ _ _ fs => splitAtGen fs = none
theorem split_ret {k h g l c p kp} {fs : List Frame} (e : splitAtGen (.ret k h g l c p kp :: fs) = none) : splitAtGen fs = none := by
  have e : (splitAtGen fs).map _ = none := e
  exact Option.map_eq_none_iff.mp e
theorem split_app : ∀ {a b : List Frame}, splitAtGen a = none → splitAtGen b = none → splitAtGen (a ++ b) = none
  | [], b, _, h => h
  | .gen _ _ _ _ _ :: a, b, h, _ => by cases h
  | .ret k hd g l c p kp :: a, b, h, hb => by
    show (splitAtGen (a ++ b)).map _ = none
    rw [split_app (split_ret h) hb]; rfl
theorem no_asleep {M : Model} {Γ : PySem.Ctx} {p : Pos} {w : String} {t : Sem PySem.Fin} {fs : List Frame} {s s' : Shared} {e : End} (h : Runs M Γ p t fs s e s') : t ≠ .unsupported w := by
  induction h with
  | segRet _ _ ih _ => exact ih
  | segGen _ _ ih _ => exact ih
  | segSuspOut _ _ ih => exact ih
  | segSuspGen _ _ _ _ ih _ => exact ih
  | _ => intro z; cases z
section
variable {O : Nat → Option GenState} {g G : Array GenState}
theorem RelG.at_none (r : RelG O g G) {i : Nat} {x : GenState} (e : g[i]? = some x) (n : ∀ y, O i = some y → False) : O i = none ∧ G[i]? = some x := by
  have z : O i = none := by
    cases q : O i with
    | none => rfl
    | some y => exact (n y q).elim
  exact ⟨z, by rw [(r.2 i).2 z]; exact e⟩
theorem RelG.set (r : RelG O g G) {i : Nat} {x : GenState} (z : O i = none) : RelG O (g.setIfInBounds i x) (G.setIfInBounds i x) := by
  refine ⟨by rw [Array.size_setIfInBounds, Array.size_setIfInBounds, r.1], fun j => ?_⟩
  by_cases hj : i = j
  · subst hj
    refine ⟨fun y hy => (by rw [z] at hy; cases hy), fun _ => ?_⟩
    rw [Array.getElem?_setIfInBounds_self, Array.getElem?_setIfInBounds_self, r.1]
  · rw [Array.getElem?_setIfInBounds_ne hj, Array.getElem?_setIfInBounds_ne hj]
    exact r.2 j
theorem RelG.push (r : RelG O g G) {x : GenState} : RelG O (g.push x) (G.push x) := by
  refine ⟨by rw [Array.size_push, Array.size_push, r.1], fun j => ⟨fun y hy => ?_, fun hn => ?_⟩⟩
  · obtain ⟨a, b, c⟩ := (r.2 j).1 y hy
    have l1 := (Array.getElem?_eq_some_iff.mp b).1
    have l2 := (Array.getElem?_eq_some_iff.mp c).1
    refine ⟨a, ?_, ?_⟩
    · rw [Array.getElem?_push_lt l1, ← b, Array.getElem?_eq_getElem l1]
    · rw [Array.getElem?_push_lt l2, ← c, Array.getElem?_eq_getElem l2]
  · rw [Array.getElem?_push, Array.getElem?_push, r.1, (r.2 j).2 hn]
theorem CleanG.set (c : CleanG g) {i : Nat} {x : GenState} (hx : ∀ k l d p fs cl, x = .suspended k l d p fs cl → splitAtGen fs = none) : CleanG (g.setIfInBounds i x) := fun j k l d p fs cl e => by
  by_cases hj : i = j
  · subst hj
    rw [Array.getElem?_setIfInBounds_self] at e
    split at e
    · exact hx k l d p fs cl (Option.some.inj e)
    · cases e
  · rw [Array.getElem?_setIfInBounds_ne hj] at e
    exact c j k l d p fs cl e
theorem CleanG.push (c : CleanG g) {d : Code} : CleanG (g.push (.fresh d)) := fun j k l d p fs cl e => by
  rw [Array.getElem?_push] at e
  split at e
  · cases e
  · exact c j k l d p fs cl e
end
theorem cleanE_state {e : End} (h : CleanE e) : ∀ k l d p fs cl, e.genState = .suspended k l d p fs cl → splitAtGen fs = none := by
  intro k l d p fs cl q
  cases e with
  | ret r => cases q
  | susp v g l' k' c' p' fs' => cases q; exact h
theorem runs_sim {M : Model} {O : Nat → Option GenState} {Γ : PySem.Ctx} {p : Pos} {t : Sem PySem.Fin} {fs : List Frame} {s s' : Shared} {e : End} (h : Runs M Γ p t fs s e s') :
    CleanG s.gens → splitAtGen fs = none → ∀ G, RelG O s.gens G → CleanG s'.gens ∧ CleanE e ∧ ∃ G', RelG O s'.gens G' ∧ Runs M Γ p t fs { s with gens := G } e { s' with gens := G' } := by
  induction h with
  | done => intro c _ G r; exact ⟨c, True.intro, G, r, .done⟩
  | raise => intro c _ G r; exact ⟨c, True.intro, G, r, .raise⟩
  | again hq _ ih => intro c f G r; obtain ⟨a, b, G', r', q⟩ := ih c f G r; exact ⟨a, b, G', r', .again hq q⟩
  | rule _ ih => intro c f G r; obtain ⟨a, b, G', r', q⟩ := ih c f G r; exact ⟨a, b, G', r', .rule q⟩
  | «at» _ ih => intro c f G r; obtain ⟨a, b, G', r', q⟩ := ih c f G r; exact ⟨a, b, G', r', .at q⟩
  | load ho _ ih => intro c f G r; obtain ⟨a, b, G', r', q⟩ := ih c f G r; exact ⟨a, b, G', r', .load ho q⟩
  | update ho _ ih => intro c f G r; obtain ⟨a, b, G', r', q⟩ := ih c f G r; exact ⟨a, b, G', r', .update ho q⟩
  | loadIfAlive _ ih => intro c f G r; obtain ⟨a, b, G', r', q⟩ := ih c f G r; exact ⟨a, b, G', r', .loadIfAlive q⟩
  | point _ ih => intro c f G r; obtain ⟨a, b, G', r', q⟩ := ih c f G r; exact ⟨a, b, G', r', .point q⟩
  | alloc _ ih => intro c f G r; obtain ⟨a, b, G', r', q⟩ := ih c f G r; exact ⟨a, b, G', r', .alloc q⟩
  | fresh _ ih => intro c f G r; obtain ⟨a, b, G', r', q⟩ := ih c f G r; exact ⟨a, b, G', r', .fresh q⟩
  | ask _ ih => intro c f G r; obtain ⟨a, b, G', r', q⟩ := ih c f G r; exact ⟨a, b, G', r', .ask q⟩
  | choose hn _ ih => intro c f G r; obtain ⟨a, b, G', r', q⟩ := ih c f G r; exact ⟨a, b, G', r', .choose hn q⟩
  | os _ ih => intro c f G r; obtain ⟨a, b, G', r', q⟩ := ih c f G r; exact ⟨a, b, G', r', .os q⟩
  | handled _ ih => intro c f G r; obtain ⟨a, b, G', r', q⟩ := ih c f G r; exact ⟨a, b, G', r', .handled q⟩
  | stack _ ih => intro c f G r; obtain ⟨a, b, G', r', q⟩ := ih c f G r; exact ⟨a, b, G', r', .stack q⟩
  | thread _ ih => intro c f G r; obtain ⟨a, b, G', r', q⟩ := ih c f G r; exact ⟨a, b, G', r', .thread q⟩
  | @genState i st Γ p k s e s' hst _ ih =>
    intro c f G r
    obtain ⟨a, b, G', r', q⟩ := ih c f G r
    cases z : O i with
    | none => exact ⟨a, b, G', r', .genState (s := { s with gens := G }) (((r.2 i).2 z).trans hst) q⟩
    | some x =>
      obtain ⟨_, h1, h2⟩ := (r.2 i).1 x z
      rw [hst] at h1
      have h1 := Option.some.inj h1
      subst h1
      rw [seen_pz] at q
      exact ⟨a, b, G', r', .genState (s := { s with gens := G }) h2 q⟩
  | newGen _ ih =>
    intro c f G r
    obtain ⟨a, b, G', r', q⟩ := ih c.push f _ r.push
    refine ⟨a, b, G', r', .newGen ?_⟩
    rw [← r.1] at q
    exact q
  | call _ _ ih1 ih2 =>
    intro c f G r
    obtain ⟨a, b, G', r', q⟩ := ih1 c rfl G r
    obtain ⟨a2, b2, G2, r2, q2⟩ := ih2 a rfl G' r'
    exact ⟨a2, b2, G2, r2, .call q q2⟩
  | callSusp _ ih =>
    intro c f G r
    obtain ⟨a, b, G', r', q⟩ := ih c rfl G r
    exact ⟨a, split_app b rfl, G', r', .callSusp q⟩
  | yield => intro c _ G r; exact ⟨c, rfl, G, r, .yield⟩
  | @resumeFresh Γ p i l k s d e₁ s₁ e s' hst _ hq _ ih1 ih2 =>
    intro c f G r
    obtain ⟨z, hG⟩ := r.at_none hst fun y hy => by
      obtain ⟨h0, h1, _⟩ := (r.2 i).1 y hy
      rw [hst] at h1
      cases y with
      | suspended => cases h1
      | _ => exact h0.elim
    obtain ⟨a, b, G', r', q⟩ := ih1 (c.set fun _ _ _ _ _ _ w => nomatch w) rfl (G.setIfInBounds i .running) (r.set z)
    obtain ⟨a2, b2, G2, r2, q2⟩ := ih2 (a.set (cleanE_state b)) rfl (G'.setIfInBounds i e₁.genState) (r'.set z)
    exact ⟨a2, b2, G2, r2, .resumeFresh (s := { s with gens := G }) hG q hq q2⟩
  | @resumeSuspended Γ p i w l k s k₀ l₀ c₀ p₀ fs cl e₁ s₁ e s' hst h1 hq _ ih1 ih2 =>
    intro c f G r
    obtain ⟨z, hG⟩ := r.at_none hst fun y hy => by
      obtain ⟨h0, h2, _⟩ := (r.2 i).1 y hy
      rw [hst] at h2
      cases y with
      | suspended _ _ _ _ _ _ =>
        have h2 := Option.some.inj h2
        injection h2 with h3 _ _ _ _ _
        rw [h3] at h1
        exact no_asleep h1 rfl
      | _ => exact h0.elim
    obtain ⟨a, b, G', r', q⟩ := ih1 (c.set fun _ _ _ _ _ _ w => nomatch w) (c i _ _ _ _ _ _ hst) (G.setIfInBounds i .running) (r.set z)
    obtain ⟨a2, b2, G2, r2, q2⟩ := ih2 (a.set (cleanE_state b)) rfl (G'.setIfInBounds i e₁.genState) (r'.set z)
    exact ⟨a2, b2, G2, r2, .resumeSuspended (s := { s with gens := G }) hG q hq q2⟩
  | @resumeJustStarted i v Γ p k s e s' l d hst hv _ ih =>
    intro c f G r
    obtain ⟨z, hG⟩ := r.at_none hst fun y hy => by
      obtain ⟨h0, h1, _⟩ := (r.2 i).1 y hy
      rw [hst] at h1
      cases y with
      | suspended => cases h1
      | _ => exact h0.elim
    obtain ⟨a, b, G', r', q⟩ := ih c f G r
    exact ⟨a, b, G', r', .resumeJustStarted (s := { s with gens := G }) hG hv q⟩
  | @resumeThrowFresh i Γ p k e s' x l s d hst _ ih =>
    intro c f G r
    obtain ⟨z, hG⟩ := r.at_none hst fun y hy => by
      obtain ⟨h0, h1, _⟩ := (r.2 i).1 y hy
      rw [hst] at h1
      cases y with
      | suspended => cases h1
      | _ => exact h0.elim
    obtain ⟨a, b, G', r', q⟩ := ih (c.set fun _ _ _ _ _ _ w => nomatch w) rfl (G.setIfInBounds i .finished) (r.set z)
    exact ⟨a, b, G', r', .resumeThrowFresh (s := { s with gens := G }) hG q⟩
  | @resumeRunning i Γ p k s e s' w l hst _ ih =>
    intro c f G r
    obtain ⟨z, hG⟩ := r.at_none hst fun y hy => by
      obtain ⟨h0, h1, _⟩ := (r.2 i).1 y hy
      rw [hst] at h1
      cases y with
      | suspended => cases h1
      | _ => exact h0.elim
    obtain ⟨a, b, G', r', q⟩ := ih c f G r
    exact ⟨a, b, G', r', .resumeRunning (s := { s with gens := G }) hG q⟩
  | @resumeFinished i Γ p k s e s' w l hst _ ih =>
    intro c f G r
    obtain ⟨z, hG⟩ := r.at_none hst fun y hy => by
      obtain ⟨h0, h1, _⟩ := (r.2 i).1 y hy
      rw [hst] at h1
      cases y with
      | suspended => cases h1
      | _ => exact h0.elim
    obtain ⟨a, b, G', r', q⟩ := ih c f G r
    exact ⟨a, b, G', r', .resumeFinished (s := { s with gens := G }) hG q⟩
  | segRet _ _ ih1 ih2 =>
    intro c f G r
    obtain ⟨a, b, G', r', q⟩ := ih1 c rfl G r
    obtain ⟨a2, b2, G2, r2, q2⟩ := ih2 a (split_ret f) G' r'
    exact ⟨a2, b2, G2, r2, .segRet q q2⟩
  | segGen _ _ _ _ => intro c f G r; cases f
  | segSuspOut hs _ ih =>
    intro c f G r
    obtain ⟨a, b, G', r', q⟩ := ih c rfl G r
    exact ⟨a, split_app b f, G', r', .segSuspOut hs q⟩
  | segSuspGen hs _ _ _ _ _ => intro c f G r; rw [f] at hs; cases hs

/-- t is s with its generators in the place of those that only look like them -/
def Sim (O : Nat → Option GenState) (s t : Shared) : Prop := CleanG s.gens ∧ RelG O s.gens t.gens ∧ t = { s with gens := t.gens }
theorem Sim.at {O : Nat → Option GenState} {s : Shared} {G : Array GenState} (c : CleanG s.gens) (r : RelG O s.gens G) : Sim O s { s with gens := G } := ⟨c, r, rfl⟩
theorem wakes_sim {M : Model} {O : Nat → Option GenState} {Γ : PySem.Ctx} {p : Pos} {i : Nat} {w : Resume} {s s' t : Shared} {res : GenResult} (S : Sim O s t) (h : Wakes M Γ p i w s res s') : ∃ t', Sim O s' t' ∧ Wakes M Γ p i w t res t' := by
  obtain ⟨c, r, e⟩ := S
  generalize t.gens = G at r e
  subst e
  unfold Wakes at h
  split at h
  · exact h.elim
  · rename_i d hst
    obtain ⟨z, hG⟩ := r.at_none hst fun y hy => by
      obtain ⟨h0, h1, _⟩ := (r.2 i).1 y hy
      rw [hst] at h1
      cases y with
      | suspended => cases h1
      | _ => exact h0.elim
    split at h
    · obtain ⟨e₁, s₁, hr, hq, rfl, rfl⟩ := h
      obtain ⟨a, b, G', r', q⟩ := runs_sim hr (c.set fun _ _ _ _ _ _ w => nomatch w) rfl (G.setIfInBounds i .running) (r.set z)
      refine ⟨_, .at (a.set (cleanE_state b)) (r'.set z), ?_⟩
      unfold Wakes
      show match G[i]? with | _ => _
      rw [hG]
      exact ⟨e₁, _, q, hq, rfl, rfl⟩
    · obtain ⟨rfl, rfl⟩ := h
      refine ⟨_, .at c r, ?_⟩
      unfold Wakes
      show match G[i]? with | _ => _
      rw [hG]
      rename_i v hv
      cases v with
      | none => exact (hv rfl).elim
      | _ => exact ⟨rfl, rfl⟩
    · obtain ⟨rfl, rfl⟩ := h
      refine ⟨_, .at (c.set fun _ _ _ _ _ _ w => nomatch w) (r.set z), ?_⟩
      unfold Wakes
      show match G[i]? with | _ => _
      rw [hG]
      exact ⟨rfl, rfl⟩
  · rename_i k₀ l₀ c₀ p₀ fs cl hst
    obtain ⟨e₁, s₁, hr, hq, rfl, rfl⟩ := h
    obtain ⟨z, hG⟩ := r.at_none hst fun y hy => by
      obtain ⟨h0, h2, _⟩ := (r.2 i).1 y hy
      rw [hst] at h2
      cases y with
      | suspended _ _ _ _ _ _ =>
        have h2 := Option.some.inj h2
        injection h2 with h3 _ _ _ _ _
        rw [h3] at hr
        exact no_asleep hr rfl
      | _ => exact h0.elim
    obtain ⟨a, b, G', r', q⟩ := runs_sim hr (c.set fun _ _ _ _ _ _ w => nomatch w) (c i _ _ _ _ _ _ hst) (G.setIfInBounds i .running) (r.set z)
    refine ⟨_, .at (a.set (cleanE_state b)) (r'.set z), ?_⟩
    unfold Wakes
    show match G[i]? with | _ => _
    rw [hG]
    exact ⟨e₁, _, q, hq, rfl, rfl⟩
  · rename_i hst
    obtain ⟨rfl, rfl⟩ := h
    obtain ⟨z, hG⟩ := r.at_none hst fun y hy => by
      obtain ⟨h0, h1, _⟩ := (r.2 i).1 y hy
      rw [hst] at h1
      cases y with
      | suspended => cases h1
      | _ => exact h0.elim
    refine ⟨_, .at c r, ?_⟩
    unfold Wakes
    show match G[i]? with | _ => _
    rw [hG]
    exact ⟨rfl, rfl⟩
  · rename_i hst
    obtain ⟨rfl, rfl⟩ := h
    obtain ⟨z, hG⟩ := r.at_none hst fun y hy => by
      obtain ⟨h0, h1, _⟩ := (r.2 i).1 y hy
      rw [hst] at h1
      cases y with
      | suspended => cases h1
      | _ => exact h0.elim
    refine ⟨_, .at c r, ?_⟩
    unfold Wakes
    show match G[i]? with | _ => _
    rw [hG]
    exact ⟨rfl, rfl⟩
theorem wp_sim {α : Type} {M : Model} {O : Nat → Option GenState} {Γ : PySem.Ctx} (x : Sem α) : ∀ (Q : α → Pos → Shared → Prop) (E : Value → Pos → Shared → Prop) (p : Pos) (s t : Shared), Sim O s t → Sem.wp M Γ x Q E p s →
    Sem.wp M Γ x (fun a p' t' => ∃ s', Sim O s' t' ∧ Q a p' s') (fun e p' t' => ∃ s', Sim O s' t' ∧ E e p' s') p t := by
  induction x with
  | pure a => intro Q E p s t S h; exact ⟨s, S, h⟩
  | raise e => intro Q E p s t S h; exact ⟨s, S, h⟩
  | unsupported _ => intro Q E p s t _ h; exact h
  | finish _ => intro Q E p s t _ h; exact h
  | register _ _ => intro Q E p s t _ h; exact h
  | yield _ _ _ _ => intro Q E p s t _ h; exact h
  | fork _ _ => intro Q E p s t _ h; exact h
  | await _ _ _ _ _ => intro Q E p s t _ h; exact h
  | rule _ k ih => intro Q E p s t S h; exact ih () Q E p s t S h
  | «at» p' k ih => intro Q E p s t S h; exact ih () Q E p' s t S h
  | point _ k ih => intro Q E p s t S h; exact ih () Q E p s t S h
  | ask k ih => intro Q E p s t S h; exact ih _ Q E p s t S h
  | handled own k ih => intro Q E p s t S h; exact ih _ Q E p s t S h
  | stack k ih => intro Q E p s t S h; exact ih _ Q E p s t S h
  | thread k ih => intro Q E p s t S h; exact ih _ Q E p s t S h
  | load a _ k ih => intro Q E p s t S h; obtain ⟨o, ho, h⟩ := h; exact ⟨o, by rw [S.2.2]; exact ho, ih o Q E p s t S h⟩
  | loadIfAlive a k ih =>
    intro Q E p s t S h
    have e : t.heap.get? a = s.heap.get? a := by rw [S.2.2]
    show Sem.wp M Γ (k (t.heap.get? a)) _ _ p t
    rw [e]
    exact ih _ Q E p s t S h
  | update a _ f k ih =>
    intro Q E p s t S h
    obtain ⟨c, r, e⟩ := S
    generalize t.gens = G at r e
    subst e
    exact ⟨h.1, ih () Q E p _ _ (Sim.at (s := { s with heap := s.heap.update a f }) c r) h.2⟩
  | alloc o k ih =>
    intro Q E p s t S h
    obtain ⟨c, r, e⟩ := S
    generalize t.gens = G at r e
    subst e
    exact ih _ Q E p _ _ (Sim.at (s := { s with heap := s.heap.push o }) c r) h
  | fresh k ih =>
    intro Q E p s t S h
    obtain ⟨c, r, e⟩ := S
    generalize t.gens = G at r e
    subst e
    exact ih _ Q E p _ _ (Sim.at (s := { s with toks := s.toks + 1 }) c r) h
  | choose src m k ih =>
    intro Q E p s t S h
    obtain ⟨c, r, e⟩ := S
    generalize t.gens = G at r e
    subst e
    exact ⟨h.1, ih _ Q E p _ _ (Sim.at (s := { s with drawn := s.drawn.bump src }) c r) h.2⟩
  | os q _ k ih =>
    intro Q E p s t S h
    obtain ⟨c, r, e⟩ := S
    generalize t.gens = G at r e
    subst e
    exact ih _ Q E p _ _ (Sim.at (s := { s with os := (Os.step s.os q).1 }) c r) h
  | call d hd _ _ k ih =>
    intro Q E p s t S h
    obtain ⟨y, s', hr, h⟩ := h
    obtain ⟨c, r, e⟩ := S
    obtain ⟨a, b, G', r', q⟩ := runs_sim hr c rfl t.gens r
    rw [← e] at q
    exact ⟨y, _, q, ih y Q E p s' _ (Sim.at a r') h⟩
  | genState g k ih =>
    intro Q E p s t S h
    obtain ⟨st, hs, h⟩ := h
    obtain ⟨c, r, e⟩ := id S
    cases z : O g with
    | none => exact ⟨st, ((r.2 g).2 z).trans hs, ih _ Q E p s t S h⟩
    | some x =>
      obtain ⟨_, h1, h2⟩ := (r.2 g).1 x z
      rw [hs] at h1
      have h1 := Option.some.inj h1
      subst h1
      rw [seen_pz] at h
      exact ⟨x, h2, ih _ Q E p s t S h⟩
  | newGen d k ih =>
    intro Q E p s t S h
    obtain ⟨c, r, e⟩ := S
    generalize t.gens = G at r e
    subst e
    show Sem.wp M Γ (k G.size) _ _ p { s with gens := G.push (.fresh d) }
    rw [r.1]
    exact ih _ Q E p { s with gens := s.gens.push (.fresh d) } { s with gens := G.push (.fresh d) } ⟨c.push, r.push, rfl⟩ h
  | resume g w _ k ih =>
    intro Q E p s t S h
    obtain ⟨res, s', hw, h⟩ := h
    obtain ⟨t', S', hw'⟩ := wakes_sim S hw
    exact ⟨res, t', hw', ih res Q E p s' t' S' h⟩
section
variable {α : Type} {M : Model} {A : Around} {O : Nat → Option GenState} {s t : Shared} {x : Sem α} {Q : α → Shared → Prop} {E : Value → Shared → Prop}
theorem wpAny_sim (S : Sim O s t) (h : wpAny M A x Q E s) : wpAny M A x (fun a t' => ∃ s', Sim O s' t' ∧ Q a s') (fun e t' => ∃ s', Sim O s' t' ∧ E e s') t :=
  fun Γ p hΓ => wp_sim x _ _ p s t S (h Γ p hΓ)
theorem sim_same (c : CleanG s.gens) : Sim (fun _ => none) s s := ⟨c, ⟨rfl, fun i => ⟨fun y h => (nomatch h), fun _ => rfl⟩⟩, rfl⟩
theorem Sim.eq (S : Sim (fun _ => none) s t) : t = s := by
  obtain ⟨c, r, e⟩ := S
  have : t.gens = s.gens := Array.ext_getElem? fun i => (r.2 i).2 rfl
  rw [e, this]
theorem wpAny_clean (c : CleanG s.gens) (h : wpAny M A x Q E s) : wpAny M A x (fun a s' => CleanG s'.gens ∧ Q a s') (fun e s' => CleanG s'.gens ∧ E e s') s :=
  wpAny_mono (wpAny_sim (sim_same c) h) (fun _ _ ⟨s', S, q⟩ => by rw [S.eq]; exact ⟨S.1, q⟩) fun _ _ ⟨s', S, q⟩ => by rw [S.eq]; exact ⟨S.1, q⟩
end
/-- the table with all that sleeps exchanged -/
def sleepers (g : Array GenState) : Nat → Option GenState := fun i => match g[i]? with
  | some (.suspended k l c p fs cl) => some (.suspended k l c p fs cl)
  | _ => none
theorem rel_sleepers (g : Array GenState) : RelG (sleepers g) (g.map pz) g := by
  refine ⟨by rw [Array.size_map], fun i => ?_⟩
  rw [Array.getElem?_map]
  unfold sleepers
  cases e : g[i]? with
  | none => exact ⟨fun y h => (by simp at h), fun _ => rfl⟩
  | some x =>
    cases x with
    | suspended k l c p fs cl => exact ⟨fun y h => (by cases h; exact ⟨trivial, rfl, rfl⟩), fun h => nomatch h⟩
    | _ => exact ⟨fun y h => (by simp at h), fun _ => rfl⟩
theorem clean_sleepers (g : Array GenState) : CleanG (g.map pz) := fun i k l c p fs cl e => by
  rw [Array.getElem?_map] at e
  cases q : g[i]? with
  | none => rw [q] at e; cases e
  | some x =>
    rw [q] at e
    cases x with
    | suspended k' l' c' p' fs' cl' =>
      have e := Option.some.inj e
      have e : GenState.suspended _ l' c' p' (fs'.map dumF) cl' = .suspended k l c p fs cl := e
      injection e with _ _ _ _ e5 _
      rw [← e5]
      exact split_dum fs'
    | _ => cases e
theorem bare_map {g : Array GenState} (b : AllBare g) : AllBare (g.map pz) := fun y hy => by
  obtain ⟨x, hx, rfl⟩ := Array.mem_map.mp hy
  exact bare_pz (b x hx)
theorem bare_rel {O : Nat → Option GenState} {g G : Array GenState} (r : RelG O g G) (b : AllBare g) (bo : ∀ i x, O i = some x → x.bare = true) : AllBare G := fun y hy => by
  obtain ⟨i, hi, e⟩ := Array.mem_iff_getElem.mp hy
  have e : G[i]? = some y := by rw [Array.getElem?_eq_getElem hi, e]
  cases z : O i with
  | some x =>
    obtain ⟨_, _, h⟩ := (r.2 i).1 x z
    rw [e] at h
    cases h
    exact bo i y z
  | none =>
    rw [(r.2 i).2 z] at e
    exact b y (Array.mem_of_getElem? e)
end Own

namespace Own
open PySem PySem.Spec PyProof.Rows L2 SX GenW
/-! ### what is gone stays gone; heaps cut off -/
/-- nothing comes back -/
def Onw (h h' : Heap) : Prop := h.objs.size ≤ h'.objs.size ∧ ∀ b, b < h.objs.size → h.get? b = none → h'.get? b = none
theorem Onw.refl {h : Heap} : Onw h h := ⟨Nat.le_refl _, fun _ _ e => e⟩
theorem Onw.trans {a b c : Heap} (x : Onw a b) (y : Onw b c) : Onw a c := ⟨Nat.le_trans x.1 y.1, fun d hd e => y.2 d (Nat.lt_of_lt_of_le hd x.1) (x.2 d hd e)⟩
theorem onw_push {h : Heap} {o : Obj} : Onw h (h.push o) := by
  refine ⟨by rw [Heap.size_push]; exact Nat.le_succ _, fun b hb e => ?_⟩
  have q : (h.push o).objs[b]? = h.objs[b]? := by
    cases h
    show (Array.push _ o)[b]? = _
    rw [Array.getElem?_push_lt hb, Array.getElem?_eq_getElem hb]
  unfold Heap.get? at e ⊢
  rw [q]; exact e
theorem onw_update {h : Heap} {a : Addr} {f : Obj → Obj} (ha : (h.get? a).isSome) : Onw h (h.update a f) := by
  refine ⟨by rw [Heap.size_update]; exact Nat.le_refl _, fun b hb e => ?_⟩
  have ne : b ≠ a := fun z => by rw [← z, e] at ha; cases ha
  rw [Heap.get?_update_ne _ _ _ _ ne]; exact e
theorem runs_onw {M : Model} {Γ : PySem.Ctx} {p : Pos} {t : Sem PySem.Fin} {fs : List Frame} {s s' : Shared} {e : End} (h : Runs M Γ p t fs s e s') : Onw s.heap s'.heap := by
  induction h with
  | done => exact .refl
  | raise => exact .refl
  | yield => exact .refl
  | update ha _ ih => exact (onw_update ha).trans ih
  | alloc _ ih => exact onw_push.trans ih
  | call _ _ a b => exact a.trans b
  | resumeFresh _ _ _ _ a b => exact a.trans b
  | resumeSuspended _ _ _ _ a b => exact a.trans b
  | segRet _ _ a b => exact a.trans b
  | segGen _ _ a b => exact a.trans b
  | segSuspGen _ _ _ _ a b => exact a.trans b
  | _ => assumption
theorem wakes_onw {M : Model} {Γ : PySem.Ctx} {p : Pos} {i : Nat} {w : Resume} {s s' : Shared} {res : GenResult} (h : Wakes M Γ p i w s res s') : Onw s.heap s'.heap := by
  unfold Wakes at h
  split at h
  · exact h.elim
  · split at h
    · obtain ⟨e₁, s₁, hr, _, _, rfl⟩ := h
      exact (runs_onw (s := s.setGen i .running) hr : Onw s.heap s₁.heap)
    · rw [h.2]; exact .refl
    · rw [h.2]; exact .refl
  · obtain ⟨e₁, s₁, hr, _, _, rfl⟩ := h
    exact (runs_onw (s := s.setGen i .running) hr : Onw s.heap s₁.heap)
  · rw [h.2]; exact .refl
  · rw [h.2]; exact .refl
theorem wp_onw {α : Type} {M : Model} {Γ : PySem.Ctx} {h0 : Heap} (x : Sem α) : ∀ (Q : α → Pos → Shared → Prop) (E : Value → Pos → Shared → Prop) (p : Pos) (s : Shared), Onw h0 s.heap → Sem.wp M Γ x Q E p s →
    Sem.wp M Γ x (fun a p' t' => Onw h0 t'.heap ∧ Q a p' t') (fun e p' t' => Onw h0 t'.heap ∧ E e p' t') p s := by
  induction x with
  | pure a => intro Q E p s n h; exact ⟨n, h⟩
  | raise e => intro Q E p s n h; exact ⟨n, h⟩
  | unsupported _ => intro Q E p s _ h; exact h
  | finish _ => intro Q E p s _ h; exact h
  | register _ _ => intro Q E p s _ h; exact h
  | yield _ _ _ _ => intro Q E p s _ h; exact h
  | fork _ _ => intro Q E p s _ h; exact h
  | await _ _ _ _ _ => intro Q E p s _ h; exact h
  | rule _ k ih => intro Q E p s n h; exact ih () Q E p s n h
  | «at» p' k ih => intro Q E p s n h; exact ih () Q E p' s n h
  | point _ k ih => intro Q E p s n h; exact ih () Q E p s n h
  | ask k ih => intro Q E p s n h; exact ih _ Q E p s n h
  | handled own k ih => intro Q E p s n h; exact ih _ Q E p s n h
  | stack k ih => intro Q E p s n h; exact ih _ Q E p s n h
  | thread k ih => intro Q E p s n h; exact ih _ Q E p s n h
  | load a _ k ih => intro Q E p s n h; obtain ⟨o, ho, h⟩ := h; exact ⟨o, ho, ih o Q E p s n h⟩
  | loadIfAlive a k ih => intro Q E p s n h; exact ih _ Q E p s n h
  | update a _ f k ih => intro Q E p s n h; exact ⟨h.1, ih () Q E p { s with heap := s.heap.update a f } (n.trans (onw_update h.1)) h.2⟩
  | alloc o k ih => intro Q E p s n h; exact ih _ Q E p { s with heap := s.heap.push o } (n.trans onw_push) h
  | fresh k ih => intro Q E p s n h; exact ih _ Q E p { s with toks := s.toks + 1 } n h
  | choose src m k ih => intro Q E p s n h; exact ⟨h.1, ih _ Q E p { s with drawn := s.drawn.bump src } n h.2⟩
  | os q _ k ih => intro Q E p s n h; exact ih _ Q E p { s with os := (Os.step s.os q).1 } n h
  | call d hd _ _ k ih => intro Q E p s n h; obtain ⟨y, s', hr, h⟩ := h; exact ⟨y, s', hr, ih y Q E p s' (n.trans (runs_onw hr)) h⟩
  | genState g k ih => intro Q E p s n h; obtain ⟨st, hs, h⟩ := h; exact ⟨st, hs, ih _ Q E p s n h⟩
  | newGen d k ih => intro Q E p s n h; exact ih _ Q E p { s with gens := s.gens.push (.fresh d) } n h
  | resume g w _ k ih => intro Q E p s n h; obtain ⟨res, s', hw, h⟩ := h; exact ⟨res, s', hw, ih res Q E p s' (n.trans (wakes_onw hw)) h⟩
theorem wpAny_onw {α : Type} {M : Model} {A : Around} {s : Shared} {x : Sem α} {Q : α → Shared → Prop} {E : Value → Shared → Prop} (h : wpAny M A x Q E s) :
    wpAny M A x (fun a t => Onw s.heap t.heap ∧ Q a t) (fun e t => Onw s.heap t.heap ∧ E e t) s := fun Γ p hΓ => wp_onw x _ _ p s .refl (h Γ p hΓ)
/-- the first n objects -/
def cutH (h : Heap) (n : Nat) : Heap := { h with objs := h.objs.extract 0 n }
theorem cutH_lt {h : Heap} {n b : Nat} (hb : b < n) : (cutH h n).get? b = h.get? b := by
  have q : (cutH h n).objs[b]? = h.objs[b]? := by
    show (h.objs.extract 0 n)[b]? = _
    rw [Array.getElem?_extract]
    split
    · rw [Nat.zero_add]
    · rename_i hn
      rw [Array.getElem?_eq_none]
      omega
  unfold Heap.get?
  rw [q]
theorem cutH_ge {h : Heap} {n b : Nat} (hb : n ≤ b) : (cutH h n).get? b = none := by
  have q : (cutH h n).objs[b]? = none := by
    show (h.objs.extract 0 n)[b]? = _
    rw [Array.getElem?_extract, if_neg (by omega)]
  unfold Heap.get?
  rw [q]
theorem cutH_size {h : Heap} {n : Nat} (hn : n ≤ h.objs.size) : (cutH h n).objs.size = n := by
  show (h.objs.extract 0 n).size = n
  rw [Array.size_extract]; omega
theorem cutH_some {h : Heap} {n b : Nat} {o : Obj} (e : (cutH h n).get? b = some o) : b < n ∧ h.get? b = some o := by
  by_cases hb : b < n
  · rw [cutH_lt hb] at e; exact ⟨hb, e⟩
  · rw [cutH_ge (Nat.le_of_not_lt hb)] at e; cases e
theorem fun_frames {h h' base : Heap} : ∀ {l : List Env}, h.FunFrames base l → (∀ b ∈ frs l, ∀ o, h.get? b = some o → ∃ o', h'.get? b = some o' ∧ o'.data = o.data) → h'.FunFrames base l
  | [], _, _ => trivial
  | env :: l, ⟨hk, ⟨L, o, hf, hn, ho, hd⟩, hr⟩, k => by
    have hL : L ∈ frs (env :: l) := by unfold frs; rw [List.filterMap_cons, hf]; exact List.mem_cons_self
    obtain ⟨o', e, ed⟩ := k L hL o ho
    refine ⟨hk, ⟨L, o', hf, hn, e, by rw [ed]; exact hd⟩, fun_frames hr fun b hb => k b ?_⟩
    unfold frs at hb ⊢
    rw [List.filterMap_cons, hf]
    exact List.mem_cons_of_mem _ hb
end Own

namespace Own
open PySem PySem.Spec PyProof.Rows L2 SX GenW
/-! ### generators whose consumer may change all that is not theirs -/
/-- the object that stands behind a name of a frame -/
def refAt (L : Addr) (h : Heap) (x : Str) : Option Addr := match h.nsMap L x with
  | some (.ref a) => some a
  | _ => none
/-- what belongs to a generator: its object, its frame, what stands behind the names nm -/
def ownF (a L : Addr) (nm : List Str) (h : Heap) : List Addr := a :: L :: nm.filterMap (refAt L h)
theorem ownF_same {a L : Addr} {nm : List Str} {h h' : Heap} (e : h'.get? L = h.get? L) : ownF a L nm h' = ownF a L nm h := by
  have q : h'.nsMap L = h.nsMap L := by
    funext x
    unfold Heap.nsMap
    rw [e]
  have q2 : refAt L h' = refAt L h := by
    funext x
    unfold refAt
    rw [q]
  unfold ownF
  rw [q2]
/-- where a generator lives: the heap ahead of its call, its object, its frame, the names of its lists -/
structure Gp where
  P : Program
  w : World
  base : Heap
  outer : List Env
  Hg : Hp
  sz : Nat
  os : OsState
  a : Addr
  go : Obj
  nm : List Str
abbrev Gp.own (g : Gp) (h : Heap) : List Addr := ownF g.a g.sz g.nm h
def NoC (o : Obj) : Prop := ∀ v, o.data ≠ .cell v
/-- the generator has run from h to h' -/
structure KeptG (g : Gp) (h h' : Heap) : Prop where
  keep : ∀ b o, h.get? b = some o → g.Hg b = none → b ∉ g.own h → (b < g.sz ∨ NoC o) → b ∉ frs g.outer → h'.get? b = some o
  slot : ∀ b o, h.get? b = some o → b ∈ frs g.outer → ∃ sl, h'.get? b = some { o with slots := sl }
  tups : ∀ b xs, g.Hg b = some (.tup xs) → ObjOk g.P g.w g.Hg h' b (.tup xs)
/-- the consumer has run from s to s' -/
structure Nap2 (g : Gp) (s s' : Shared) : Prop where
  os : s'.os = s.os
  bare : AllBare s'.gens
  sz : g.sz ≤ s'.heap.objs.size
  own : ∀ b ∈ g.own s.heap, g.sz ≤ b ∧ s'.heap.get? b = s.heap.get? b
  base : ∀ b o, g.base.get? b = some o → s'.heap.get? b = some o
  tups : ∀ b xs, g.Hg b = some (.tup xs) → ObjOk g.P g.w g.Hg s'.heap b (.tup xs)
  funs : s'.heap.FunFrames g.base g.outer
/-- an item is out -/
def Item2 (g : Gp) (out : List V) : Protocol := fun n s₀ v s1 kap =>
  s1.os = g.os ∧ AllBare s1.gens ∧ s1.heap.NoLimit ∧ s1.heap.get? g.a = some g.go ∧ KeptG g s₀.heap s1.heap ∧ (∃ (k : Nat) (x : V), n + 1 + k = sizeLine ∧ out[k]? = some x ∧ RelV x v) ∧
  (∀ b ∈ g.own s1.heap, (∃ o, s1.heap.get? b = some o ∧ NoC o) ∧ (b ∈ g.own s₀.heap ∨ s₀.heap.get? b = none ∨ (g.sz ≤ b ∧ ∃ o, s₀.heap.get? b = some o ∧ ¬ NoC o))) ∧ ∀ s', Nap2 g s1 s' → kap (.send .none) s' ∧ kap (.send .ellipsis) s'
def Done2 (g : Gp) (out : List V) (n : Nat) (s₀ s1 : Shared) : Prop := n + out.length = sizeLine ∧ s1.os = g.os ∧ AllBare s1.gens ∧ KeptG g s₀.heap s1.heap
def Over2 (g : Gp) (out : List V) : GenEnd := fun n s₀ r s1 => ((r = .ok (.ret .none) ∨ r = .ok .next) ∧ Done2 g out n s₀ s1) ∨ ∃ e, r = .error e ∧ (fun (_ : Value) (_ : Shared) => False) e s1
/-- the context with another beginning -/
abbrev rr (X : Cx) (s0 : Shared) : Cx := { X with s_0 := s0 }
abbrev root (X : Cx) (s : Shared) : Shared := { X.s_0 with heap := cutH s.heap X.s_0.heap.objs.size }
/-- the place of the generator whose body runs in X -/
def gpOf (X : Cx) (a : Addr) (go : Obj) (nm : List Str) : Gp := ⟨X.prog, X.w, X.base, X.outer, X.H_0, X.s_0.heap.objs.size, X.s_0.os, a, go, nm⟩
structure GOk (X : Cx) (a : Addr) (go : Obj) (nm : List Str) : Prop where
  cells : X.env.cells = []
  ex : X.ex = []
  loc : X.env.locals = X.s_0.heap.objs.size
  pn : X.pn = [(a, go)]
  lo : X.s_0.heap.objs.size ≤ a
  go : NoC go
  tups : ∀ b o, X.H_0 b = some o → b < X.s_0.heap.objs.size ∧ ∃ xs, o = .tup xs
/-- the generator runs; it was woken at s₀ -/
def Run2 (X : Cx) (a : Addr) (go : Obj) (nm : List Str) (σ : L2.St) (H : Hp) (s₀ s : Shared) : Prop :=
  ∃ cp : List (Addr × Obj), (∀ b o, s₀.heap.get? b = some o → X.s_0.heap.objs.size ≤ b → b ∉ (gpOf X a go nm).own s₀.heap → NoC o → (b, o) ∈ cp) ∧ Inv (rr X (root X s₀)) cp σ H s
section
variable {X : Cx} {a : Addr} {go : Obj} {nm : List Str} {σ : L2.St} {H : Hp} {s₀ s s' : Shared}
theorem Run2.fs (r : Run2 X a go nm σ H s₀ s) : ∀ b ∈ X.fs, b < X.s_0.heap.objs.size ∧ ∃ o, s₀.heap.get? b = some o := fun b hb => by
  obtain ⟨cp, _, I⟩ := r
  obtain ⟨_, o, ho, _⟩ := I.ok.funs.mem hb
  obtain ⟨h1, h2⟩ := cutH_some ho
  exact ⟨h1, o, h2⟩
theorem Run2.kept (G : GOk X a go nm) (r : Run2 X a go nm σ H s₀ s) (sm : Same X.H_0 H) : KeptG (gpOf X a go nm) s₀.heap s.heap := by
  have hfs := r.fs
  obtain ⟨cp, cov, I⟩ := r
  have nex : ∀ b, b ∉ X.ex := fun b z => by rw [G.ex] at z; cases z
  refine ⟨fun b o e n no hc nf => ?_, fun b o e hb => ?_, fun b xs e => ?_⟩
  · by_cases hlt : b < X.s_0.heap.objs.size
    · exact I.base.keep b o ((cutH_lt hlt).trans e) n nf (nex b)
    · rcases hc with hc | hc
      · exact absurd hc hlt
      · exact (I.pin (b, o) (List.mem_append_right _ (cov b o e (Nat.le_of_not_lt hlt) no hc))).1
  · exact I.base.slot b o ((cutH_lt (hfs b hb).1).trans e) (I.ok.frf b hb) hb (nex b)
  · have q := I.hok b _ (sm b _ e)
    exact q
/-- the generator goes on where the consumer has left all that is its own -/
theorem wokenI {s0 : Shared} {cp : List (Addr × Obj)} (G : GOk X a go nm) (I : Inv (rr X s0) cp σ H s) (h1 : s0.heap.objs.size ≤ X.s_0.heap.objs.size) (h2 : s0.os = X.s_0.os) (z : Nap2 (gpOf X a go nm) s s')
    (hw : ∀ b ∈ nm.filterMap (refAt X.env.locals s.heap), ∃ xs, H b = some (.lst xs) ∧ X.H_0 b = none) :
    Run2 X a go nm σ (fun b => if b ∈ nm.filterMap (refAt X.env.locals s.heap) then H b else X.H_0 b) s' s' := by
  have hfs : ∀ b ∈ X.fs, b < X.s_0.heap.objs.size := fun b hb => by
    obtain ⟨_, o, ho, _⟩ := I.ok.funs.mem hb
    exact Nat.lt_of_lt_of_le (Heap.lt_size ho) h1
  obtain ⟨hp, g, d, t, o⟩ := s'
  have ho : o = s.os := z.os
  subst ho
  have eL : X.s_0.heap.objs.size = X.env.locals := G.loc.symm
  have mws : ∀ b ∈ nm.filterMap (refAt X.env.locals s.heap), b ∈ (gpOf X a go nm).own s.heap := fun b hb => by
    show b ∈ a :: X.s_0.heap.objs.size :: nm.filterMap (refAt X.s_0.heap.objs.size s.heap)
    rw [eL]
    exact List.mem_cons_of_mem _ (List.mem_cons_of_mem _ hb)
  have own : ∀ b ∈ (gpOf X a go nm).own s.heap, X.s_0.heap.objs.size ≤ b ∧ hp.get? b = s.heap.get? b := z.own
  have oL := own X.s_0.heap.objs.size (List.mem_cons_of_mem _ (List.mem_cons_self ..))
  have oA := own a (List.mem_cons_self ..)
  have pA := I.pin (a, go) (List.mem_append_left _ (by show (a, go) ∈ X.pn; rw [G.pn]; exact List.mem_singleton.mpr rfl))
  have h0lt : ∀ b o, X.H_0 b = some o → b < X.s_0.heap.objs.size := fun b o e => (G.tups b o e).1
  have h0none : ∀ b, X.s_0.heap.objs.size ≤ b → X.H_0 b = none := fun b hb => by
    cases q : X.H_0 b with
    | none => rfl
    | some u => exact absurd (h0lt b u q) (Nat.not_lt.mpr hb)
  generalize hws : nm.filterMap (refAt X.env.locals s.heap) = ws at *
  have wlst : ∀ b ∈ ws, ∃ xs, H b = some (.lst xs) ∧ X.H_0 b = none := hw
  have fL : H X.env.locals = none := I.free
  have nL : X.env.locals ∉ ws := fun m => by
    obtain ⟨xs, e, _⟩ := wlst _ m
    rw [fL] at e; cases e
  have nA : a ∉ ws := fun m => by
    obtain ⟨xs, e, _⟩ := wlst _ m
    have e2 : H a = none := pA.2.1
    rw [e2] at e; cases e
  have cutNone : ∀ b, X.s_0.heap.objs.size ≤ b → b ∉ ws → (if b ∈ ws then H b else X.H_0 b) = none := fun b hb n => by
    rw [if_neg n]; exact h0none b hb
  have cut0 : ∀ b, b < X.s_0.heap.objs.size → (if b ∈ ws then H b else X.H_0 b) = X.H_0 b := fun b hb => if_neg fun m => absurd hb (Nat.not_lt.mpr (own b (mws b m)).1)
  have zf : hp.FunFrames X.base X.outer := z.funs
  have zb : ∀ b o, X.base.get? b = some o → hp.get? b = some o := z.base
  have zt : ∀ b xs, X.H_0 b = some (.tup xs) → ObjOk X.prog X.w X.H_0 hp b (.tup xs) := z.tups
  have zs : X.s_0.heap.objs.size ≤ hp.objs.size := z.sz
  have hsz : (cutH hp X.s_0.heap.objs.size).objs.size = X.s_0.heap.objs.size := cutH_size zs
  have bsz : X.base.objs.size ≤ X.s_0.heap.objs.size := by
    exact Nat.le_trans I.ok.bsz h1
  refine ⟨(List.range hp.objs.size).filterMap fun b => if X.s_0.heap.objs.size ≤ b ∧ b ∉ (gpOf X a go nm).own hp then (hp.get? b).bind fun o => match o.data with
      | .cell _ => none
      | _ => some (b, o) else none, fun b o e h1 h2 h3 => ?_, ?_⟩
  · refine List.mem_filterMap.mpr ⟨b, List.mem_range.mpr (Heap.lt_size e), ?_⟩
    have e' : hp.get? b = some o := e
    rw [if_pos ⟨h1, h2⟩, e']
    show (match o.data with | .cell _ => none | _ => some (b, o)) = _
    split
    · rename_i v hd
      exact (h3 v hd).elim
    · rfl
  have hcp : ∀ p ∈ (List.range hp.objs.size).filterMap (fun b => if X.s_0.heap.objs.size ≤ b ∧ b ∉ (gpOf X a go nm).own hp then (hp.get? b).bind fun o => match o.data with
      | .cell _ => none
      | _ => some (b, o) else none), hp.get? p.1 = some p.2 ∧ X.s_0.heap.objs.size ≤ p.1 ∧ p.1 ∉ (gpOf X a go nm).own hp ∧ NoC p.2 := fun p hp' => by
    obtain ⟨b, _, e⟩ := List.mem_filterMap.mp hp'
    split at e
    · rename_i hc
      cases q : hp.get? b with
      | none => rw [q] at e; cases e
      | some ob =>
        rw [q] at e
        have e : (match ob.data with | .cell _ => none | _ => some (b, ob)) = some p := e
        split at e
        · cases e
        · rename_i hn
          cases e
          exact ⟨q, hc.1, hc.2, fun v hv => hn v hv⟩
    · cases e
  have ownEq : (gpOf X a go nm).own hp = (gpOf X a go nm).own s.heap := ownF_same oL.2
  have locK : hp.get? X.env.locals = s.heap.get? X.env.locals := by rw [← eL]; exact oL.2
  refine ⟨⟨I.ok.mod, I.ok.kind, I.ok.glob, I.ok.blt, ?_, I.ok.inj, I.ok.has, fun x c _ e => ?_, I.ok.hd, I.ok.frames, I.ok.stk, I.ok.exf, fun b o e => ⟨?_, (I.ok.bs b o e).2⟩, ?_, I.ok.noex, I.ok.exfs, ?_, I.ok.frf⟩,
    (I.os.trans h2 : s.os = X.s_0.os), z.bare, ⟨?_, ?_, ?_, ?_, ?_, ?_, ?_⟩, ?_, fun x c e => ?_, ?_, fun x c e => ?_, fun p hp' => ?_, fun b u e => ?_, I.len⟩
  · show (cutH hp _).objs.size ≤ X.env.locals
    rw [hsz, ← eL]; exact Nat.le_refl _
  · have e : X.env.cells.lookup x = some c := e
    rw [G.cells] at e; cases e
  · show (cutH hp _).get? b = some o
    have e : X.base.get? b = some o := e
    rw [cutH_lt (Nat.lt_of_lt_of_le (Heap.lt_size e) bsz)]
    exact zb b o e
  · show X.base.objs.size ≤ (cutH hp _).objs.size
    rw [hsz]; exact bsz
  · refine fun_frames zf fun b hb o e => ⟨o, ?_, rfl⟩
    show (cutH hp _).get? b = some o
    rw [cutH_lt (hfs b hb)]; exact e
  · intro b o e _ _ _
    exact (cutH_some e).2
  · intro b o e _ _ _
    exact ⟨o.slots, (cutH_some e).2⟩
  · intro b o e n _
    rw [cut0 b (cutH_some e).1]; exact n
  · intro b o e _
    exact ⟨o, (cutH_some e).2⟩
  · intro b xs e
    have e : X.H_0 b = some (.tup xs) := e
    rw [cut0 b (h0lt b _ e)]; exact e
  · intro b o u e
    have e : X.H_0 b = some (.frz o u) := e
    rw [cut0 b (h0lt b _ e)]; exact e
  · intro b ps e
    have e : X.H_0 b = some (.tbl ps) := e
    obtain ⟨_, xs, q⟩ := G.tups b _ e
    cases q
  · obtain ⟨m, hn, hl⟩ := I.loc
    refine ⟨m, hn.at' fun o e => ?_, fun i x v e1 e2 e3 => ?_⟩
    · show hp.get? X.env.locals = some o
      rw [locK]; exact e
    · obtain ⟨u, r, l⟩ := hl i x v e1 e2 e3
      refine ⟨u, r, ?_⟩
      rcases l with l | ⟨k, c, e, _⟩
      · exact .inl l
      · have e : X.env.cells.lookup x = some c := e
        rw [G.cells] at e; cases e
  · have e : X.env.cells.lookup x = some c := e
    rw [G.cells] at e; cases e
  · exact cutNone _ (by rw [eL]; exact Nat.le_refl _) nL
  · have e : X.env.cells.lookup x = some c := e
    rw [G.cells] at e; cases e
  · rcases List.mem_append.mp hp' with hp' | hp'
    · have hp' : p ∈ X.pn := hp'
      rw [G.pn] at hp'
      rw [List.mem_singleton.mp hp']
      exact ⟨oA.2.trans pA.1, cutNone a G.lo nA, pA.2.2.1, pA.2.2.2.1, pA.2.2.2.2⟩
    · obtain ⟨e, h1, h2, h3⟩ := hcp p hp'
      rw [ownEq] at h2
      refine ⟨e, cutNone _ h1 fun m => h2 (mws _ m), fun q => h2 ?_, fun hb => absurd (hfs _ hb) (Nat.not_lt.mpr h1), h3⟩
      have q : p.1 = X.env.locals := q
      rw [q, ← eL]
      exact List.mem_cons_of_mem _ (List.mem_cons_self ..)
  · show ObjOk X.prog X.w (fun b => if b ∈ ws then H b else X.H_0 b) hp b u
    by_cases hb : b ∈ ws
    · rw [if_pos hb] at e
      obtain ⟨xs, e2, _⟩ := wlst b hb
      rw [e2] at e
      cases e
      obtain ⟨l, its, n, v, q⟩ := I.hok b _ e2
      exact ⟨l, its, n, v, by rw [(own b (mws b hb)).2]; exact q⟩
    · rw [if_neg hb] at e
      obtain ⟨_, xs, q⟩ := G.tups b u e
      subst q
      exact zt b xs e
theorem cut_le {h : Heap} {n : Nat} : (cutH h n).objs.size ≤ n := by
  show (h.objs.extract 0 n).size ≤ n
  rw [Array.size_extract]; omega
theorem Run2.woken (G : GOk X a go nm) (r : Run2 X a go nm σ H s₀ s) (z : Nap2 (gpOf X a go nm) s s')
    (hw : ∀ b ∈ nm.filterMap (refAt X.env.locals s.heap), ∃ xs, H b = some (.lst xs) ∧ X.H_0 b = none) :
    Run2 X a go nm σ (fun b => if b ∈ nm.filterMap (refAt X.env.locals s.heap) then H b else X.H_0 b) s' s' :=
  let ⟨_, _, I⟩ := r
  wokenI G I cut_le rfl z hw
end
end Own

namespace Own
open PySem PySem.Spec PyProof.Rows L2 SX GenW
/-! ### the bodies of such generators -/
def Got2 (X : Cx) (a : Addr) (go : Obj) (nm : List Str) (D : EndsK) (k : Nat) (s₀ : Shared) : Flow → Shared → Prop
  | .next, s => ∃ σ H, Run2 X a go nm σ H s₀ s ∧ D.nx k σ H
  | .brk, s => ∃ σ H, Run2 X a go nm σ H s₀ s ∧ D.bk k σ H
  | .cont, s => ∃ σ H, Run2 X a go nm σ H s₀ s ∧ D.ct k σ H
  | .ret u, s => ∃ v σ H, Run2 X a go nm σ H s₀ s ∧ RelV v u ∧ D.rt k v H
structure Spot2 (X : Cx) (A : Around) (c : Code) (fs : List Frame) (gd : Bool → Bool) : Prop where
  over : A.over c fs = X.A
  split : splitAtGen fs = none
  guard : fs.any Frame.guarded = false
  gd : gd false = false
structure Then2 (X : Cx) (a : Addr) (go : Obj) (nm : List Str) (out : List V) (A : Around) (R : GenEnd) (c : Code) (fs : List Frame) (K : Flow → Sem PySem.Fin) (J : Value → Sem PySem.Fin) (D : EndsK) : Prop where
  ok : ∀ (n k : Nat) (s₀ s : Shared) (f : Flow), n + k = sizeLine → Got2 X a go nm D k s₀ f s → Seg (model X.prog X.w) A R (Item2 (gpOf X a go nm) out) n s₀ c (K f) fs s
  exc : ∀ (n : Nat) (s₀ : Shared) (e : Value) (s : Shared), X.xe e s → Seg (model X.prog X.w) A R (Item2 (gpOf X a go nm) out) n s₀ c (J e) fs s
def Does2 (X : Cx) (a : Addr) (go : Obj) (nm : List Str) (out : List V) (m : Sem Flow) (t : TK) : Prop :=
  ∀ (A : Around) (R : GenEnd) (n k : Nat) (s₀ : Shared) (c : Code) (fs : List Frame) (K : Flow → Sem PySem.Fin) (J : Value → Sem PySem.Fin) (gd : Bool → Bool) (lv : List Value → List Value) (s : Shared) (σ : L2.St) (H : Hp) (D : EndsK),
    Spot2 X A c fs gd → n + k = sizeLine → Then2 X a go nm out A R c fs K J D → Run2 X a go nm σ H s₀ s → t D k σ H → Seg (model X.prog X.w) A R (Item2 (gpOf X a go nm) out) n s₀ c (m.wrap K J gd lv) fs s
section
variable {X : Cx} {a : Addr} {go : Obj} {nm : List Str} {out : List V} {st : Stmt} {rest : List Stmt}
/-- what hands out nothing -/
theorem d2_plain {t : TS} (h : ∀ s0, PS (rr X s0) st t) : Does2 X a go nm out (exec st X.env) (tSame t) := by
  intro A R n k s₀ c fs K J gd lv s σ H D g hn f ⟨cp, cov, I⟩ ht
  refine seg_wrap ?_
  rw [g.over]
  refine wpAny_mono ((h (root X s₀)).run cp s σ H (D.at k) I ht) (fun fl s' hs => f.ok n k s₀ s' fl hn ?_) fun x s' hx => f.exc n s₀ x s' hx
  cases fl with
  | next => obtain ⟨σ', H', I', q⟩ := hs; exact ⟨σ', H', ⟨cp, cov, I'⟩, q⟩
  | brk => obtain ⟨σ', H', I', q⟩ := hs; exact ⟨σ', H', ⟨cp, cov, I'⟩, q⟩
  | cont => obtain ⟨σ', H', I', q⟩ := hs; exact ⟨σ', H', ⟨cp, cov, I'⟩, q⟩
  | ret u => obtain ⟨v, σ', H', I', r, q⟩ := hs; exact ⟨v, σ', H', ⟨cp, cov, I'⟩, r, q⟩
theorem d2_nil : Does2 X a go nm out (execs [] X.env) tStop := by
  intro A R n k s₀ c fs K J gd lv s σ H D g hn f r ht
  exact seg_execs_nil (f.ok n k s₀ s .next hn ⟨σ, H, r, ht⟩)
theorem d2_cons {t u : TK} (x : Does2 X a go nm out (exec st X.env) t) (y : Does2 X a go nm out (execs rest X.env) u) : Does2 X a go nm out (execs (st :: rest) X.env) (tOn t u) := by
  intro A R n k s₀ c fs K J gd lv s σ H D g hn f r ht
  refine seg_execs_cons (x A R n k s₀ c fs _ J gd lv s σ H { D with nx := u D } g hn ⟨fun n' k' s₀' s' fl hn' hs => ?_, f.exc⟩ r ht)
  cases fl with
  | next =>
    obtain ⟨σ', H', r', q⟩ := hs
    exact y A R n' k' s₀' c fs K J gd lv s' σ' H' D g hn' f r' q
  | brk => exact f.ok n' k' s₀' s' .brk hn' hs
  | cont => exact f.ok n' k' s₀' s' .cont hn' hs
  | ret u => exact f.ok n' k' s₀' s' (.ret u) hn' hs
theorem d2_last {t : TK} (x : Does2 X a go nm out (exec st X.env) t) : Does2 X a go nm out (execs [st] X.env) t := d2_cons x d2_nil
/-- the heap when the generator wakes again: its lists at ws, and what it was given -/
def wakeH (H0 H : Hp) (ws : List Addr) : Hp := fun b => if b ∈ ws then H b else H0 b
/-- yield e: the names nm stand for the lists at ws, which are its own -/
def tYield2 (X : Cx) (nm : List Str) (ws : List Addr) (out : List V) (te : TE) : TK := fun D k (σ : List (Option V)) H => k < sizeLine ∧ te σ H fun x H1 => out[k]? = some x ∧ Same X.H_0 H1 ∧
  Paired (fun (x : Str) (w : Addr) => ∃ i : Nat, X.N[i]? = some x ∧ σ[i]? = some (some (V.ref w)) ∧ X.env.scope.names.lookup x = some .local ∧ (∃ xs, H1 w = some (.lst xs)) ∧ X.H_0 w = none) nm ws ∧ D.nx (k + 1) σ (wakeH X.H_0 H1 ws)
theorem refs_of {nm : List Str} {ws : List Addr} {L : Addr} {h : Heap} (p : Paired (fun x w => refAt L h x = some w) nm ws) : nm.filterMap (refAt L h) = ws := by
  induction p with
  | nil => rfl
  | cons e _ ih => rw [List.filterMap_cons, e]; show _ :: _ = _; rw [ih]
theorem d2_yield {e : Expr} {yp pos : Pos} {te : TE} {ws : L2.St → Hp → List Addr} (G : GOk X a go nm) (he : ∀ s0, PE (rr X s0) e te) (hco : X.env.scope.isCoroutine = false := by rfl) (hi : interactive X.env = false := by rfl) :
    Does2 X a go nm out (exec (.Expr (.Yield (some e) yp) pos) X.env) (fun D k σ H => tYield2 X nm (ws σ H) out te D k σ H) := by
  intro A R n k s₀ c fs K J gd lv s σ H D g hn f r ht
  obtain ⟨hk, ht⟩ := ht
  obtain ⟨m, rfl⟩ : ∃ m, n = m + 1 := ⟨n - 1, by omega⟩
  obtain ⟨cp, cov, I⟩ := r
  refine seg_Expr_Yield g.split g.gd g.guard ?_ hco hi
  rw [g.over]
  refine wpAny_mono ((he (root X s₀)).run cp s σ H _ I ht) (fun v s' hv => ?_) fun x s' hx => f.exc _ s₀ x s' hx
  obtain ⟨x, H1, I1, rv, hx, sm, hp, q⟩ := hv
  have r1 : Run2 X a go nm σ H1 s₀ s' := ⟨cp, cov, I1⟩
  have kk := r1.kept G sm
  have eL : X.s_0.heap.objs.size = X.env.locals := G.loc.symm
  have pA := I1.pin (a, go) (List.mem_append_left _ (by show (a, go) ∈ X.pn; rw [G.pn]; exact List.mem_singleton.mpr rfl))
  have hr : nm.filterMap (refAt X.env.locals s'.heap) = ws σ H := by
    refine refs_of (Paired.mapP hp fun y w ⟨i, e1, e2, e3, _⟩ => ?_)
    obtain ⟨mm, hns, hl⟩ := I1.loc
    obtain ⟨u, ru, l⟩ := hl i y _ e1 e2 (.inl e3)
    have eu : u = .ref w := ru
    subst eu
    unfold refAt
    rcases l with ⟨_, l⟩ | ⟨_, c', ec, _⟩
    · have hns : s'.heap.Ns X.env.locals mm := hns
      rw [← hns.eq_nsMap, l]
    · have ec : X.env.cells.lookup y = some c' := ec
      rw [G.cells] at ec; cases ec
  have hall : ∀ b ∈ ws σ H, (∃ xs, H1 b = some (.lst xs)) ∧ X.H_0 b = none := fun b hb => by
    have aux : ∀ {l : List Str} {l' : List Addr}, Paired (fun (x : Str) (w : Addr) => ∃ i : Nat, X.N[i]? = some x ∧ σ[i]? = some (some (V.ref w)) ∧ X.env.scope.names.lookup x = some .local ∧ (∃ xs, H1 w = some (.lst xs)) ∧ X.H_0 w = none) l l' → b ∈ l' → (∃ xs, H1 b = some (.lst xs)) ∧ X.H_0 b = none := by
      intro l l' p hb
      induction p with
      | nil => cases hb
      | cons e _ ih =>
        rcases List.mem_cons.mp hb with rfl | hb
        · obtain ⟨_, _, _, _, e1, e2⟩ := e; exact ⟨e1, e2⟩
        · exact ih hb
    exact aux hp hb
  have hown : (gpOf X a go nm).own s'.heap = a :: X.s_0.heap.objs.size :: ws σ H := by
    show a :: X.s_0.heap.objs.size :: nm.filterMap (refAt X.s_0.heap.objs.size s'.heap) = _
    rw [eL, hr]
  intro kap hkap
  refine ⟨I1.os, I1.bare, I1.nolimit, pA.1, kk, ⟨k, x, by show m + 1 - 1 + 1 + k = _; omega, hx, rv⟩, fun b hb => ?_, fun s'' z => have st : Seg (model X.prog X.w) A R (Item2 (gpOf X a go nm) out) m s'' c (K .next) fs s'' := f.ok m (k + 1) s'' s'' .next (by omega) ⟨σ, _, ?_, q⟩; ⟨hkap .none s'' st, hkap .ellipsis s'' st⟩⟩
  · rw [hown] at hb
    rcases List.mem_cons.mp hb with rfl | hb
    · exact ⟨⟨go, pA.1, G.go⟩, .inl (List.mem_cons_self ..)⟩
    · rcases List.mem_cons.mp hb with rfl | hb
      · obtain ⟨mm, ⟨ob, es, ep, ho, hd, _⟩, _⟩ := I1.loc
        exact ⟨⟨ob, by rw [eL]; exact ho, fun v hv => by rw [hd] at hv; cases hv⟩, .inl (List.mem_cons_of_mem _ (List.mem_cons_self ..))⟩
      · obtain ⟨⟨xs, e1⟩, e2⟩ := hall b hb
        obtain ⟨_, its, cap, _, eo⟩ := I1.hok b _ e1
        refine ⟨⟨_, eo, fun v hv => nomatch hv⟩, ?_⟩
        -- was it there when the generator was woken?
        by_cases ho : b ∈ (gpOf X a go nm).own s₀.heap
        · exact .inl ho
        · refine .inr ?_
          cases q0 : s₀.heap.get? b with
          | none => exact .inl rfl
          | some ob =>
            by_cases hlt : b < X.s_0.heap.objs.size
            · exfalso
              have := I1.base.free b ob ((cutH_lt hlt).trans q0) e2 (by show b ∉ X.ex; rw [G.ex]; exact fun z => nomatch z)
              rw [e1] at this; cases this
            · by_cases hc : NoC ob
              · exfalso
                have := (I1.pin (b, ob) (List.mem_append_right _ (cov b ob q0 (Nat.le_of_not_lt hlt) ho hc))).2.1
                rw [e1] at this; cases this
              · exact .inr ⟨Nat.le_of_not_lt hlt, ob, rfl, hc⟩
  · have z2 := Run2.woken G r1 z (by rw [hr]; exact fun b hb => let ⟨⟨xs, e⟩, e2⟩ := hall b hb; ⟨xs, e, e2⟩)
    rw [hr] at z2
    exact z2

/-! ### while -/
variable {A : Around} {R : GenEnd} {c : Code} {fs : List Frame} {K : Flow → Sem PySem.Fin} {J : Value → Sem PySem.Fin} {gd : Bool → Bool} {lv : List Value → List Value} {D : EndsK} {n k : Nat} {s₀ s : Shared}
theorem Spot2.loop {c' : Code} {p : Pos} (g : Spot2 X A c fs gd) (hw : c'.weight = 0) (hu : c'.cUnits = 0) : Spot2 X A c' (loopF X.env K J gd lv c p :: fs) id :=
  ⟨(over_loop hw hu).trans g.over, by show Option.map _ (splitAtGen fs) = none; rw [g.split]; rfl, by show (gd false || _) = false; rw [g.gd, Bool.false_or]; exact g.guard, rfl⟩
theorem Then2.leave {c' : Code} {p : Pos} {e : Value} (hp : PassesOwn (model X.prog X.w) X.A X.env X.xe) (g : Spot2 X A c fs gd) (f : Then2 X a go nm out A R c fs K J D) (hw : c'.weight = 0) (hu : c'.cUnits = 0) (h : X.xe e s) :
    Seg (model X.prog X.w) A R (Item2 (gpOf X a go nm) out) n s₀ c' (noted X.env e) (loopF X.env K J gd lv c p :: fs) s := by
  have up : ∀ (n : Nat) (s₀ : Shared) (y : Value) (s' : Shared), cameBackBy (model X.prog X.w) X.A X.env X.xe y s' → Seg (model X.prog X.w) A R (Item2 (gpOf X a go nm) out) n s₀ c (under X.env K J gd lv (.error y)) fs s' := by
    intro n s₀ y s' hy
    have q : under X.env K J gd lv (.error y) = (back X.env y).wrap (fun _ => J y) J gd lv := by
      show ((back X.env y).bind fun _ => (Sem.raise y : Sem Flow)).wrap K J gd lv = _
      rw [Sem.bind_eq_wrap, Sem.wrap_wrap]
      rfl
    rw [q]
    refine seg_wrap ?_
    rw [g.over]
    exact wpAny_mono hy (fun _ s'' hx => f.exc n s₀ y s'' hx) fun x s'' hx => f.exc n s₀ x s'' hx
  refine seg_wrap ?_
  rw [(g.loop (K := K) (J := J) (lv := lv) (p := p) hw hu).over]
  refine wpAny_bind (wpAny_mono (hp e s h) (fun _ s' hb => wpAny_theTreesLotGoes (seg_leaf (.error e) (up n s₀ e s' hb))) fun y s' hb => seg_leaf (.error y) (up n s₀ y s' hb))
theorem d2_while {test : Expr} {body : List Stmt} {pos : Pos} {tc : TT} {tb : TK} (hp : PassesOwn (model X.prog X.w) X.A X.env X.xe) (hc : ∀ s0, PT (rr X s0) test tc) (hb : Does2 X a go nm out (execs body X.env) tb) : Does2 X a go nm out (exec (.While test body [] pos) X.env) (tWhileK tc tb) := by
  intro A R n k s₀ c fs K J gd lv s σ H D g hn f r ht
  obtain ⟨W, ⟨m0, w0⟩, turn⟩ := ht
  refine seg_While fun p => ?_
  have gl : Spot2 X A (.whileLoop test body [] X.env) (loopF X.env K J gd lv c p :: fs) id := g.loop rfl rfl
  have go_ : ∀ (m n k : Nat) (s₀ s : Shared) (σ : L2.St) (H : Hp), n + k = sizeLine → W m k σ H → Run2 X a go nm σ H s₀ s →
      Seg (model X.prog X.w) A R (Item2 (gpOf X a go nm) out) n s₀ (.whileLoop test body [] X.env) ((model X.prog X.w).den (.whileLoop test body [] X.env)) (loopF X.env K J gd lv c p :: fs) s := by
    intro m
    induction m using Nat.strongRecOn with
    | ind m ih =>
      intro n k s₀ s σ H hn w r
      refine seg_whileLoop ?_
      rw [gl.over]
      obtain ⟨cp, cov, I⟩ := r
      refine wpAny_mono ((hc (root X s₀)).run cp s σ H _ I (turn m k σ H w)) (fun b s' ⟨H2, I2, q2⟩ => ?_) fun x s' hx => f.leave hp g rfl rfl hx
      have r2 : Run2 X a go nm σ H2 s₀ s' := ⟨cp, cov, I2⟩
      cases b with
      | false => exact seg_execs_nil (seg_leaf (.ok .next) (f.ok n k s₀ s' .next hn ⟨σ, H2, r2, q2⟩))
      | true =>
        obtain ⟨N, hN, q2⟩ := q2
        refine hb A R n k s₀ _ _ _ _ id id s' σ H2 { D with nx := N, ct := N, bk := D.nx } gl hn ⟨fun n' k' s₀' s3 fl hn' hs => ?_, fun n' s₀' x s3 hx => f.leave hp g rfl rfl hx⟩ r2 q2
        have on : ∀ {σ3 : L2.St} {H3 : Hp}, Run2 X a go nm σ3 H3 s₀' s3 → N k' σ3 H3 → Seg (model X.prog X.w) A R (Item2 (gpOf X a go nm) out) n' s₀' (.whileLoop test body [] X.env) (.pure (.again (.whileLoop test body [] X.env))) (loopF X.env K J gd lv c p :: fs) s3 := fun r3 n3 => by
          obtain ⟨m', hm, w3⟩ := hN k' _ _ n3
          exact seg_again rfl (ih m' hm n' k' s₀' s3 _ _ hn' w3 r3)
        cases fl with
        | next => obtain ⟨σ3, H3, r3, n3⟩ := hs; exact on r3 n3
        | cont => obtain ⟨σ3, H3, r3, n3⟩ := hs; exact on r3 n3
        | brk => exact seg_leaf (.ok .next) (f.ok n' k' s₀' s3 .next hn' hs)
        | ret v => exact seg_leaf (.ok (.ret v)) (f.ok n' k' s₀' s3 (.ret v) hn' hs)
  exact go_ m0 n k s₀ s σ H hn w0 r
end
end Own

namespace Own
open PySem PySem.Spec PyProof.Rows L2 SX GenW
/-! ### a call of such a generator def -/
abbrev SpT := List V → Hp → List V → Prop
structure Fresh2 (P : Program) (w : World) (base : Heap) (k : Nat) (outer : List Env) (H : Hp) (s : Shared) (out : List V) (nm : List Str) (a : Addr) (g : Nat) (c : Code) (go : Obj) (s' : Shared) : Prop where
  lo : s.heap.objs.size ≤ a
  goat : s'.heap.get? a = some go
  noc : NoC go
  gen : ∀ h : Heap, h.get? a = some go → h.IsGen a g
  at_ : s'.gens[g]? = some (.fresh c)
  os : s'.os = s.os
  bare : AllBare s'.gens
  lim : s'.heap.NoLimit
  keep : ∀ b o, s.heap.get? b = some o → s'.heap.get? b = some o
  onw : s.heap.objs.size < s'.heap.objs.size
  own : (⟨P, w, base, outer, H, s.heap.objs.size, s.os, a, go, nm⟩ : Gp).own s'.heap = [a, s.heap.objs.size]
  frame : ∃ o, s'.heap.get? s.heap.objs.size = some o ∧ NoC o
  tups : ∀ b o, H b = some o → ∃ xs, o = .tup xs
  clean : CleanG s.gens → CleanG s'.gens
  wake : ∀ (A : Around) (s2 : Shared), Room k A → A.frames = some outer → Nap2 ⟨P, w, base, outer, H, s.heap.objs.size, s.os, a, go, nm⟩ s' s2 →
    Seg (model P w) A (Over2 ⟨P, w, base, outer, H, s.heap.objs.size, s.os, a, go, nm⟩ out) (Item2 ⟨P, w, base, outer, H, s.heap.objs.size, s.os, a, go, nm⟩ out) sizeLine s2 c ((model P w).den c) [] s2
structure GFn2 (P : Program) (w : World) (K : PySem.W.Frag) (mg : Str → Option Value) (base : Heap) (k : Nat) (f : Addr) (fd : FuncData) (ps nm : List Str) (sp : SpT) : Prop where
  len : ∀ vs H out, sp vs H out → vs.length = ps.length
  run : ∀ (A : Around) (outer : List Env) (s : Shared) (H : Hp) (args : Args) (us : List Value) (vs out : List V), Room k A → Env0 P w K mg base A outer s H → (∀ b o, H b = some o → ∃ xs, o = .tup xs) → BindsTo s fd args (ps.zip us) → Vals vs us → sp vs H out →
    codeAny (model P w) A (.call (.ref f) args) (fun r s' => ∃ a g c go, r = .ok (.ret (.ref a)) ∧ Fresh2 P w base k outer H s out nm a g c go s') s
section
variable {P : Program} {w : World} {K : PySem.W.Frag} {mg : Str → Option Value} {base : Heap}
theorem gfn2_of {k : Nat} {f : Addr} {name qual : Str} {params : Arguments} {body : List Stmt} {scope : Scope} {dV kV doc pm cdv ct oc : Value} {an od : Option Addr}
    {osl : Array (Option Value)} {N ps nm : List Str} {sp : SpT} (lk : K.lookup f = some ⟨oc, od, .func (PySem.W.fnOf name qual params body scope dV kV doc pm an cdv ct), osl⟩) (hcd : PySem.W.codeIn K cdv qual = true) (S : L2.GScope N ps scope)
    (hnc : ∀ n, cellsFrom n scope.names [] = []) (hnm : ∀ x ∈ nm, x ∉ ps) (len : ∀ vs H out, sp vs H out → vs.length = ps.length)
    (hbody : ∀ (A : Around) (outer : List Env) (s : Shared) (H : Hp) (vs out : List V) (a : Addr) (go : Obj), Room k (A.deeper (envOfC qual scope s.heap.objs.size f cdv)) → GOk (gcxOf P w K mg base N qual scope f cdv A outer s H EN [(a, go)]) a go nm → sp vs H out →
      ∃ t, Does2 (gcxOf P w K mg base N qual scope f cdv A outer s H EN [(a, go)]) a go nm out (execs body (gcxOf P w K mg base N qual scope f cdv A outer s H EN [(a, go)]).env) t ∧
        t { nx := fun k _ H' => k = out.length ∧ Same H H', rt := fun k v H' => v = .non ∧ k = out.length ∧ Same H H' } 0 (start N vs) H) :
    GFn2 P w K mg base (k + 1) f (PySem.W.fnOf name qual params body scope dV kV doc pm an cdv ct) ps nm sp := by
  refine ⟨len, fun A outer s H args us vs out hr e0 hT hb r hsp => ?_⟩
  have hl := len _ _ _ hsp
  have same := fun b o e => (e0.bs b o e).1
  have KX : K.In s.heap := e0.mod.kin.keeps same
  have lim : s.heap.NoLimit := e0.mod.nolimit.keeps same
  have hkind : ∀ y ∈ ps.zip us, scope.names.lookup y.1 = some .local ∨ (scope.names.lookup y.1 = some .cell ∧ ((cellsFrom (s.heap.objs.size + 1) scope.names []).lookup y.1).isSome = true) := by
    rintro ⟨y, v⟩ hy
    exact (S.par y (List.of_mem_zip hy).1).imp id fun q => ⟨q, PySem.W.cellsFrom_some _ _ _ (.inl q)⟩
  refine codeAny_call_generator hr.depth (KX _ _ lk) rfl S.co S.gen rfl (PySem.W.codeRec_of KX hcd) (hb _ _ _ _ ?_)
  refine wpAny_newFunctionEnv_cells S.kind hkind fun env he s1 x => ?_
  subst he
  refine ⟨lim.keeps x.toInCall.keep, ?_⟩
  have kp1 : ∀ b o, s.heap.get? b = some o → s1.heap.get? b = some o := x.toInCall.keep
  have lim1 : s1.heap.NoLimit := lim.keeps kp1
  have lt1 : s.heap.objs.size < s1.heap.objs.size := x.toInCall.ns.lt
  have ns1 : s1.heap.Ns s.heap.objs.size (bindL (envOfC qual scope s.heap.objs.size f cdv).kindOf (ps.zip us) fun _ => none) := x.toInCall.ns
  obtain ⟨h1, tk, es1, hk1⟩ := x.done
  have os1 : s1.os = s.os := by rw [es1]
  have gen1 : s1.gens = s.gens := by rw [es1]
  have main : ∀ (go : Obj) (n1 qn : Value) (tk2 : Nat), go.cls = .type "generator" → go.data = .fields #[.int s1.gens.size 0, n1, qn] → go.slots = #[] → (∀ h : Heap, (h.push go).get? h.objs.size = some go) →
      Fresh2 P w base (k + 1) outer H s out nm s1.heap.objs.size s1.gens.size (.func body (envOfC qual scope s.heap.objs.size f cdv)) go { s1 with gens := s1.gens.push (.fresh (.func body (envOfC qual scope s.heap.objs.size f cdv))), toks := tk2, heap := s1.heap.push go } := by
    intro go n1 qn tk2 g1 g2 g3 g4
    have isg : ∀ h : Heap, h.get? s1.heap.objs.size = some go → h.IsGen s1.heap.objs.size s1.gens.size := fun h e => ⟨go, n1, qn, e, g1, g2, g3⟩
    have noc : NoC go := fun v q => by rw [g2] at q; cases q
    have kp2 : ∀ b o, s1.heap.get? b = some o → (s1.heap.push go).get? b = some o := fun b o e => Heap.get?_push_of_some _ e
    have hrefs : nm.filterMap (refAt s.heap.objs.size (s1.heap.push go)) = [] := by
      refine List.filterMap_eq_nil_iff.mpr fun y hy => ?_
      have hns := ns1.keeps kp2
      unfold refAt
      rw [← hns.eq_nsMap, bindL_out fun v hv => hnm _ hy (List.of_mem_zip hv).1]
    have hown : ownF s1.heap.objs.size s.heap.objs.size nm (s1.heap.push go) = [s1.heap.objs.size, s.heap.objs.size] := by
      unfold ownF
      rw [hrefs]
    refine { lo := Nat.le_of_lt lt1, goat := g4 _, noc := noc, gen := isg, at_ := Array.getElem?_push_size .., os := os1, bare := AllBare.push (by rw [gen1]; exact e0.bare) rfl, lim := lim1.keeps kp2, keep := fun b o e => kp2 b o (kp1 b o e), onw := ?_, own := hown, frame := ?_, tups := hT, clean := fun c => by rw [← gen1] at c; exact c.push, wake := ?_ }
    · show s.heap.objs.size < (s1.heap.push go).objs.size
      rw [Heap.size_push]; exact Nat.lt_succ_of_lt lt1
    · obtain ⟨o, es, ep, ho, hd, _⟩ := ns1
      exact ⟨o, kp2 _ _ ho, fun v q => by rw [hd] at q; cases q⟩
    intro Aw s2 hrw hfr z
    have e0w : Env0 P w K mg base Aw outer s H := ⟨hfr, e0.mod, e0.bs, e0.bsz, e0.funs, e0.frf, e0.hok, e0.bare⟩
    have I1 : Inv (gcxOf P w K mg base N qual scope f cdv Aw outer s H EN []) [] (start N vs) H s1 := L2.inv_startG S hrw.hd e0w hl r x
    have I2 : Inv (gcxOf P w K mg base N qual scope f cdv Aw outer s H EN []) [] (start N vs) H { s1 with gens := s1.gens.push (.fresh (.func body (envOfC qual scope s.heap.objs.size f cdv))), toks := tk2, heap := s1.heap.push go } :=
      I1.call' (ch := []) rfl (Un.kept kp2) (I1.hok.kept kp2) (AllBare.push I1.bare rfl) fun b z => absurd z (by simp)
    have nL : s1.heap.objs.size ≠ s.heap.objs.size := Nat.ne_of_gt lt1
    have I3 : Inv (gcxOf P w K mg base N qual scope f cdv Aw outer s H EN [(s1.heap.objs.size, go)]) [] (start N vs) H { s1 with gens := s1.gens.push (.fresh (.func body (envOfC qual scope s.heap.objs.size f cdv))), toks := tk2, heap := s1.heap.push go } := by
      refine Inv.pinnedG I2 fun p hp => ?_
      rw [List.append_nil] at hp
      rw [List.mem_singleton.mp hp]
      exact ⟨g4 _, I1.hok.fresh (Nat.le_refl _), nL, I1.nofs (Nat.le_refl _), noc⟩
    have G : GOk (gcxOf P w K mg base N qual scope f cdv Aw outer s H EN [(s1.heap.objs.size, go)]) s1.heap.objs.size go nm :=
      ⟨hnc _, rfl, rfl, rfl, Nat.le_of_lt lt1, noc, fun b o e => ⟨e0.hok.lt e, hT b o e⟩⟩
    have r0 : Run2 (gcxOf P w K mg base N qual scope f cdv Aw outer s H EN [(s1.heap.objs.size, go)]) s1.heap.objs.size go nm (start N vs) H s2 s2 := by
      have q := wokenI (s0 := s) G I3 (Nat.le_refl _) rfl z (by
        show ∀ b ∈ nm.filterMap (refAt s.heap.objs.size (s1.heap.push go)), _
        rw [hrefs]
        exact fun b hb => nomatch hb)
      have e : (fun b => if b ∈ nm.filterMap (refAt (gcxOf P w K mg base N qual scope f cdv Aw outer s H EN [(s1.heap.objs.size, go)]).env.locals (s1.heap.push go)) then H b else H b) = H := by
        funext b
        split <;> rfl
      exact (congrArg (fun h => Run2 _ _ _ _ _ h s2 s2) e).mp q
    obtain ⟨t, ht, hq⟩ := hbody Aw outer s H vs out s1.heap.objs.size go (hrw.deeper _) G hsp
    refine seg_func ?_
    refine seg_imp (R := fun n s₀ r s' => match r with
        | .ok (.ret u) => u = .none ∧ ∃ k σ' H', n + k = sizeLine ∧ Run2 (gcxOf P w K mg base N qual scope f cdv Aw outer s H EN [(s1.heap.objs.size, go)]) s1.heap.objs.size go nm σ' H' s₀ s' ∧ k = out.length ∧ Same H H'
        | .ok _ => False
        | .error e => CX P w outer H s EN e s')
      (Y := Item2 (gpOf (gcxOf P w K mg base N qual scope f cdv Aw outer s H EN [(s1.heap.objs.size, go)]) s1.heap.objs.size go nm) out) (fun n s₀ r s' hR => ?_) (fun n s₀ v s' kap kap' hkk hY => ?_) sizeLine ?_
    · cases r with
      | error e =>
        obtain ⟨_, _, _, _, _, _, _, _, _, _, _, _, bad⟩ := (show CX P w outer H s EN e s' from hR)
        exact False.elim bad
      | ok fl =>
        cases fl with
        | next => exact False.elim hR
        | brk => exact False.elim hR
        | cont => exact False.elim hR
        | ret u =>
          obtain ⟨rfl, k', σ', H', hn, r', rfl, sm⟩ := hR
          have kk := r'.kept G sm
          obtain ⟨cp, cov, J⟩ := r'
          exact .inl ⟨.inl rfl, hn, J.os, J.bare, kk⟩
    · obtain ⟨y1, y2, y3, y4, y5, y6, y7, y8⟩ := hY
      exact ⟨y1, y2, y3, y4, y5, y6, y7, fun s'' z => ⟨hkk _ _ (y8 s'' z).1, hkk _ _ (y8 s'' z).2⟩⟩
    · refine ht Aw _ sizeLine 0 s2 _ [] _ _ id id s2 (start N vs) H _ ⟨over_func, rfl, rfl, rfl⟩ (Nat.add_zero _) ⟨fun n k' s₀ s' fl hn hs => ?_, fun n s₀ e s' hx => ?_⟩ r0 hq
      · cases fl with
        | next =>
          obtain ⟨σ', H', r', e, hQ⟩ := hs
          exact seg_end (.ok (.ret .none)) ⟨rfl, k', σ', H', hn, r', e, hQ⟩
        | brk => obtain ⟨_, _, _, q⟩ := hs; exact False.elim q
        | cont => obtain ⟨_, _, _, q⟩ := hs; exact False.elim q
        | ret u =>
          obtain ⟨v, σ', H', r', rv, e1, e, hQ⟩ := hs
          subst e1
          have eu : u = Value.none := rv
          subst eu
          exact seg_end (.ok (.ret .none)) ⟨rfl, k', σ', H', hn, r', e, hQ⟩
      · refine seg_wrap ?_
        rw [over_func]
        exact wpAny_mono (show wpAny (model P w) (Aw.deeper (envOfC qual scope s.heap.objs.size f cdv)) (leaving (envOfC qual scope s.heap.objs.size f cdv) e) (fun _ s'' => CX P w outer H s EN e s'' ∧ ∀ p ∈ [(s1.heap.objs.size, go)], s''.heap.get? p.1 = some p.2) (fun _ _ => False) s' from hx) (fun _ s'' q => seg_end (.error e) q.1) fun _ s'' q => q.elim
  exact ⟨_, _, _, _, rfl, main _ _ _ _ rfl rfl rfl fun h => Heap.get?_push_size _ rfl⟩
end
end Own

namespace Own
open PySem PySem.Spec PyProof.Rows L2 SX GenW
/-! ### for x in g(..): any body -/
/-- a thing whose object is no cell -/
def PlainO : HO → Prop
  | .own _ => False
  | .frz _ _ => False
  | .ext _ => False
  | _ => True
theorem noc_plain {P : Program} {w : World} {H : Hp} {h : Heap} {b : Addr} {o : HO} {u : Obj} (p : PlainO o) (x : ObjOk P w H h b o) (e : h.get? b = some u) : NoC u := by
  have go : ∀ {d : Data}, u.data = d → (∀ v, d ≠ .cell v) → NoC u := fun q z v hv => z v (q.symm.trans hv)
  cases o with
  | lst xs => obtain ⟨_, _, _, _, q⟩ := x; rw [e] at q; cases q; exact fun v hv => nomatch hv
  | tup xs => obtain ⟨_, _, _, ob, q, _, n, hd⟩ := x; rw [e] at q; cases q; exact go hd fun v hv => nomatch hv
  | dK kvs => obtain ⟨_, _, _, _, ob, _, _, q, _, hd, _⟩ := x; rw [e] at q; cases q; exact go hd fun v hv => nomatch hv
  | dT kvs => obtain ⟨_, _, _, _, ob, _, _, q, _, hd, _⟩ := x; rw [e] at q; cases q; exact go hd fun v hv => nomatch hv
  | set S n => obtain ⟨ob, _, _, _, q, _, hd, _⟩ := x; rw [e] at q; cases q; exact go hd fun v hv => nomatch hv
  | ins C dx fs => obtain ⟨_, _, _, q, _⟩ := x; rw [e] at q; cases q; exact fun v hv => nomatch hv
  | xd fs => obtain ⟨_, ⟨_, _, _, q, hd, _⟩, _⟩ := x; rw [e] at q; cases q; exact go hd fun v hv => nomatch hv
  | rng lo hi => obtain ⟨_, _, _, q⟩ := x; rw [e] at q; cases q; exact fun v hv => nomatch hv
  | tbl ps =>
    have q : h.get? b = some { cls := .none, data := .fields ps } := x
    rw [e] at q; cases q; exact fun v hv => nomatch hv
  | met f y =>
    have q : h.get? b = some (PySem.W.methodObj (.ref f) (.ref y)) := x
    rw [e] at q; cases q; exact fun v hv => nomatch hv
  | _ => exact p.elim
/-- all that is young is no cell -/
def Good2 (n : Nat) (H : Hp) (h : Heap) : Prop := ∀ b o u, H b = some o → h.get? b = some u → b < n ∨ NoC u
/-- some young things are forgotten -/
def Drp (H1 H Hd : Hp) : Prop := (∀ b o, Hd b = some o → H b = some o) ∧ ∀ b o, H b = some o → ((∃ u, H1 b = some u) ∨ PlainO o) → Hd b = some o
section
variable {P : Program} {w : World} {H H' : Hp} {h : Heap} {b : Addr} {o : HO}
theorem objok_mono (ho : ∀ c m, H c = some (.own b) → h.Ns1 c m → H' c = some (.own b)) (ht : ∀ c xs, H c = some (.tup xs) → H' c = some (.tup xs)) (x : ObjOk P w H h b o) : ObjOk P w H' h b o := by
  induction o with
  | dT kvs =>
    obtain ⟨z, y, xs, r, q⟩ := x
    exact ⟨z, y, xs, Paired.mapP r fun p q z => ⟨z.1, ht _ _ z.2.1, z.2.2⟩, q⟩
  | ins C dx fs => obtain ⟨d, z, ne, e, mA, q, r⟩ := x; exact ⟨ho _ _ d q, z, ne, e, mA, q, r⟩
  | frz ob u ih => obtain ⟨e, q⟩ := x; exact ⟨e, ih q⟩
  | lst xs => exact x
  | tup xs => exact x
  | dK kvs => exact x
  | set S n => exact x
  | own y => exact x
  | xd fs => exact x
  | rng lo hi => exact x
  | tbl ps => exact x
  | met f y => exact x
  | ext φ => exact x
end
open Classical in
noncomputable def dropH (n : Nat) (h : Heap) (H : Hp) : Hp := fun b => match H b with
  | some o => if b < n ∨ PlainO o ∨ ((∃ x, o = .own x) ∧ ∃ m, h.Ns1 b m) then some o else none
  | none => none
section
variable {n : Nat} {h : Heap} {H : Hp} {b : Addr} {o : HO}
theorem drop_sub (e : dropH n h H b = some o) : H b = some o ∧ (b < n ∨ PlainO o ∨ ((∃ x, o = .own x) ∧ ∃ m, h.Ns1 b m)) := by
  unfold dropH at e
  cases q : H b with
  | none => rw [q] at e; cases e
  | some u =>
    rw [q] at e
    dsimp only at e
    split at e
    · rename_i c; cases e; exact ⟨rfl, c⟩
    · cases e
theorem drop_get (e : H b = some o) (c : b < n ∨ PlainO o ∨ ((∃ x, o = .own x) ∧ ∃ m, h.Ns1 b m)) : dropH n h H b = some o := by
  unfold dropH
  rw [e]
  exact if_pos c
theorem drop_none (e : H b = none) : dropH n h H b = none := by unfold dropH; rw [e]
end
section
variable {X : Cx} {pins : List (Addr × Obj)} {σ : L2.St} {H : Hp} {s : Shared} {n : Nat}
theorem good_drop (I : Inv X pins σ H s) : Good2 n (dropH n s.heap H) s.heap := fun b o u e eu => by
  obtain ⟨e1, c⟩ := drop_sub e
  rcases c with c | c | ⟨_, m, ob, es, ep, q, hd, _⟩
  · exact .inl c
  · exact .inr (noc_plain c (I.hok b o e1) eu)
  · rw [eu] at q; cases q
    exact .inr fun v hv => by rw [hd] at hv; cases hv
/-- what was tracked at the entry is old -/
theorem inv_drop (I : Inv X pins σ H s) (hf : ∀ b o u, X.H_0 b = some (.frz o u) → b < n) : Inv X pins σ (dropH n s.heap H) s := by
  have tup : ∀ b xs, H b = some (.tup xs) → dropH n s.heap H b = some (.tup xs) := fun b xs e => drop_get e (.inr (.inl trivial))
  refine ⟨I.ok, I.os, I.bare, ⟨I.base.keep, I.base.slot, fun b o e n hx => drop_none (I.base.free b o e n hx), I.base.there, fun b xs e => tup b xs (I.base.tups b xs e), fun b o u e => drop_get (I.base.frzs b o u e) (.inl (hf b o u e)), fun b ps e => ?_⟩,
    I.loc, I.cell, drop_none I.free, fun x c e => drop_none (I.freeC x c e), fun p hp => ?_, fun b o e => ?_, I.len⟩
  · obtain ⟨more, q⟩ := I.base.tbls b ps e
    exact ⟨more, drop_get q (.inr (.inl trivial))⟩
  · obtain ⟨h1, h2, h3⟩ := I.pin p hp
    exact ⟨h1, drop_none h2, h3⟩
  · exact objok_mono (fun c m e q => drop_get e (.inr (.inr ⟨⟨_, rfl⟩, m, q⟩))) tup (I.hok b o (drop_sub e).1)
theorem drp_drop {H1 : Hp} (old : ∀ b o, H1 b = some o → b < n) : Drp H1 H (dropH n s.heap H) :=
  ⟨fun b o e => (drop_sub e).1, fun b o e c => drop_get e (c.elim (fun ⟨u, z⟩ => .inl (old b u z)) fun z => .inr (.inl z))⟩
/-- the generator has run: the consumer's things stand as they stood -/
theorem after_gen {g : Gp} {s1 : Shared} (I : Inv X pins σ H s) (K : KeptG g s.heap s1.heap) (hP : g.P = X.prog) (hw : g.w = X.w) (ho : g.outer = X.stack) (hG : Good2 g.sz H s.heap) (sub : ∀ b o, g.Hg b = some o → H b = some o ∧ ∃ xs, o = .tup xs)
    (own : ∀ b ∈ g.own s.heap, FpOk X pins H b) (os : s1.os = s.os) (bare : AllBare s1.gens) (l0 : X.s_0.heap.objs.size ≤ g.sz) (lL : X.env.locals < g.sz) (lC : ∀ x c, X.env.cells.lookup x = some c → c < g.sz) : Inv X pins σ H s1 := by
  obtain ⟨P, w, base, outer, Hg, sz, os0, a, go, nm⟩ := g
  cases hP
  cases hw
  have ho : outer = X.stack := ho
  subst ho
  have gn : ∀ b, H b = none → Hg b = none := fun b e => by
    cases q : Hg b with
    | none => rfl
    | some o => rw [(sub b o q).1] at e; cases e
  obtain ⟨ch, hch⟩ : ∃ ch : List Addr, ∀ b, b ∈ ch ↔ b < s.heap.objs.size ∧ (b ∈ (⟨X.prog, X.w, base, X.stack, Hg, sz, os0, a, go, nm⟩ : Gp).own s.heap ∨ (sz ≤ b ∧ ∃ o, s.heap.get? b = some o ∧ ¬ NoC o)) := by
    classical
    exact ⟨(List.range s.heap.objs.size).filter fun b => decide (b ∈ (⟨X.prog, X.w, base, X.stack, Hg, sz, os0, a, go, nm⟩ : Gp).own s.heap ∨ (sz ≤ b ∧ ∃ o, s.heap.get? b = some o ∧ ¬ NoC o)), fun b => by
      rw [List.mem_filter, List.mem_range, decide_eq_true_iff]⟩
  have nch : ∀ b o, s.heap.get? b = some o → b ∉ ch → b ∉ (⟨X.prog, X.w, base, X.stack, Hg, sz, os0, a, go, nm⟩ : Gp).own s.heap ∧ (b < sz ∨ NoC o) := fun b o e n => by
    refine ⟨fun z => n ((hch b).mpr ⟨Heap.lt_size e, .inl z⟩), ?_⟩
    by_cases hb : b < sz
    · exact .inl hb
    · refine .inr (Classical.byContradiction fun z => n ((hch b).mpr ⟨Heap.lt_size e, .inr ⟨Nat.le_of_not_lt hb, o, e, z⟩⟩))
  have any : ∀ b o, s.heap.get? b = some o → H b = none → b ∉ ch → b ∉ frs X.stack → s1.heap.get? b = some o := fun b o e n hc hf => K.keep b o e (gn b n) (nch b o e hc).1 (nch b o e hc).2 hf
  have trk : ∀ b o u, H b = some o → (∀ xs, o ≠ .tup xs) → s.heap.get? b = some u → s1.heap.get? b = some u := fun b o u e nt eu => by
    refine K.keep b u eu ?_ (fun z => ?_) (hG b o u e eu) fun z => ?_
    · cases q : Hg b with
      | none => exact q
      | some v =>
        obtain ⟨e2, xs, e3⟩ := sub b v q
        rw [e] at e2
        cases e2
        exact (nt xs e3).elim
    · rw [(own b z).1] at e; cases e
    · rw [I.stkFree b z] at e; cases e
  refine I.call' (ch := ch) os ⟨fun b o e n hf hc => any b o e n hc hf, fun b o e _ hb _ => K.slot b o e hb, fun b o _ n _ => n, fun b o e hc => ?_, fun _ _ e => e, fun _ _ _ e => e, fun b ps e => ⟨#[], by rw [e]; simp⟩⟩ (fun b o e => ?_) bare fun b hb => ?_
  · by_cases hf : b ∈ frs X.stack
    · obtain ⟨sl, q⟩ := K.slot b o e hf
      exact ⟨_, q⟩
    · cases q : H b with
      | none => exact ⟨o, any b o e q hc hf⟩
      | some v =>
        cases q2 : Hg b with
        | none => exact ⟨o, K.keep b o e q2 (nch b o e hc).1 (nch b o e hc).2 hf⟩
        | some z =>
          obtain ⟨e2, xs, e3⟩ := sub b z q2
          subst e3
          obtain ⟨_, its, _, ob, eo, _⟩ := K.tups b xs q2
          exact ⟨ob, eo⟩
  · cases q2 : Hg b with
    | some z =>
      obtain ⟨e2, xs, e3⟩ := sub b z q2
      subst e3
      rw [e] at e2
      cases e2
      exact K.tups b xs q2
    | none =>
      refine (I.hok b o e).stay (fun c u hc eu => ?_) (fun _ e => e) fun _ _ e => e
      rcases hc with rfl | hc
      · refine K.keep _ u eu q2 (fun z => ?_) (hG _ o u e eu) fun z => ?_
        · rw [(own _ z).1] at e; cases e
        · rw [I.stkFree _ z] at e; cases e
      · exact trk c _ u hc (fun xs z => nomatch z) eu
  · obtain ⟨h1, h2⟩ := (hch b).mp hb
    rcases h2 with h2 | ⟨h2, ob, h3, h4⟩
    · obtain ⟨_, f1, _, f3, f4, f5⟩ := own b h2
      exact ⟨f3, f1, f4, f5⟩
    · refine ⟨.inr (Nat.le_trans l0 h2), fun z => ?_, fun x c e z => ?_, fun p hp z => ?_⟩
      · rw [z] at h2; exact absurd lL (Nat.not_lt.mpr h2)
      · rw [← z] at h2; exact absurd (lC x c e) (Nat.not_lt.mpr h2)
      · obtain ⟨q1, _, _, _, q5⟩ := I.pin p hp
        rw [z, h3] at q1
        cases q1
        exact h4 q5
end

/-! ### what does not ask which generators sleep -/
def GF (X : Cx) : Prop := ∀ O s t e, Sim O s t → (∀ i y, O i = some y → y.bare = true) → X.xe e s → X.xe e t
theorem GF.never {X : Cx} (h : ∀ e s, ¬ X.xe e s) : GF X := fun _ s _ e _ _ x => (h e s x).elim
section
variable {X : Cx} {pins : List (Addr × Obj)} {σ : L2.St} {H : Hp} {s t : Shared} {O : Nat → Option GenState} {D : Ends} {f : Flow}
theorem inv_gens (I : Inv X pins σ H s) (os : t.os = s.os) (hp : t.heap = s.heap) (b : AllBare t.gens) : Inv X pins σ H t :=
  I.call' (ch := []) os (by rw [hp]; exact Un.refl) (by rw [hp]; exact I.hok) b fun _ z => nomatch z
theorem Sim.heap (S : Sim O s t) : t.heap = s.heap ∧ t.os = s.os := by
  obtain ⟨_, _, e⟩ := S
  rw [e]; exact ⟨rfl, rfl⟩
theorem inv_sim (S : Sim O s t) (hb : ∀ i y, O i = some y → y.bare = true) (I : Inv X pins σ H s) : Inv X pins σ H t := inv_gens I S.heap.2 S.heap.1 (bare_rel S.2.1 I.bare hb)
theorem sp_sim (S : Sim O s t) (hb : ∀ i y, O i = some y → y.bare = true) (h : SP X pins D f s) : SP X pins D f t := by
  cases f with
  | next => obtain ⟨σ', H', I, q⟩ := h; exact ⟨σ', H', inv_sim S hb I, q⟩
  | brk => obtain ⟨σ', H', I, q⟩ := h; exact ⟨σ', H', inv_sim S hb I, q⟩
  | cont => obtain ⟨σ', H', I, q⟩ := h; exact ⟨σ', H', inv_sim S hb I, q⟩
  | ret u => obtain ⟨v, σ', H', I, r, q⟩ := h; exact ⟨v, σ', H', inv_sim S hb I, r, q⟩
/-- all that sleeps may be taken for asleep for ever -/
theorem wpAny_asleep {α : Type} {A : Around} {M : Model} {x : Sem α} {Q : α → Shared → Prop} {E : Value → Shared → Prop} (h : wpAny M A x Q E { s with gens := s.gens.map pz }) :
    wpAny M A x (fun a t => ∃ s', Sim (sleepers s.gens) s' t ∧ Q a s') (fun e t => ∃ s', Sim (sleepers s.gens) s' t ∧ E e s') s :=
  wpAny_sim (s := { s with gens := s.gens.map pz }) ⟨clean_sleepers _, rel_sleepers _, rfl⟩ h
theorem bare_sleepers {g : Array GenState} (b : AllBare g) : ∀ i y, sleepers g i = some y → y.bare = true := fun i y e => by
  unfold sleepers at e
  split at e
  · rename_i q
    cases e
    exact b _ (Array.mem_of_getElem? q)
  · cases e
end
/-- one that sleeps -/
def oneG (g : Nat) (x : GenState) : Nat → Option GenState := fun i => if i = g then some x else none
theorem rel_one {G : Array GenState} {g : Nat} {x : GenState} (h : G[g]? = some x) (hx : Sus x) : RelG (oneG g x) (G.setIfInBounds g (pz x)) G := by
  have hl := (Array.getElem?_eq_some_iff.mp h).1
  refine ⟨(Array.size_setIfInBounds ..).symm, fun i => ⟨fun y e => ?_, fun e => ?_⟩⟩
  · unfold oneG at e
    split at e
    · rename_i q
      subst q
      cases e
      exact ⟨hx, by rw [Array.getElem?_setIfInBounds_self, if_pos hl], h⟩
    · cases e
  · unfold oneG at e
    split at e
    · cases e
    · rename_i q
      rw [Array.getElem?_setIfInBounds_ne (Ne.symm q)]
theorem clean_one {G : Array GenState} {g : Nat} {x : GenState} (c : CleanG G) : CleanG (G.setIfInBounds g (pz x)) := c.set fun k l d p fs cl e => by
  cases x with
  | suspended k' l' d' p' fs' cl' =>
    have e : GenState.suspended _ l' d' p' (fs'.map dumF) cl' = .suspended k l d p fs cl := e
    injection e with _ _ _ _ e5 _
    rw [← e5]
    exact split_dum fs'
  | _ => cases e
theorem clean_back {g : Nat} {x : GenState} {s t : Shared} (S : Sim (oneG g x) s t) (hx : ∀ k l d p fs cl, x = .suspended k l d p fs cl → splitAtGen fs = none) : CleanG t.gens := fun i k l d p fs cl e => by
  by_cases hi : i = g
  · subst hi
    obtain ⟨_, _, q⟩ := (S.2.1.2 i).1 x (by unfold oneG; rw [if_pos rfl])
    rw [q] at e
    exact hx k l d p fs cl (Option.some.inj e)
  · rw [(S.2.1.2 i).2 (by unfold oneG; rw [if_neg hi])] at e
    exact S.1 i k l d p fs cl e
end Own

namespace Own
open PySem PySem.Spec PyProof.Rows L2 SX GenW
/-! ### the loop -/
/-- what a generator hands out, and the heap behind its call -/
abbrev TGen2 := L2.St → Hp → (List V → Hp → Prop) → Prop
structure PGen2 (X : Cx) (k : Nat) (nm : List Str) (e : Expr) (tg : TGen2) : Prop where
  run : ∀ (pins : List (Addr × Obj)) (s : Shared) (σ : L2.St) (H : Hp) (cont : List V → Hp → Prop), Inv X pins σ H s → tg σ H cont → wpAny (model X.prog X.w) X.A (eval e X.env)
    (fun u s' => ∃ H1 Hg sc out a g c go, u = .ref a ∧ Inv X pins σ H1 sc ∧ (∀ b o, Hg b = some o → H1 b = some o) ∧ Fresh2 X.prog X.w X.base k X.stack Hg sc out nm a g c go s' ∧ cont out H1) X.xe s
def KeepT (H1 H : Hp) : Prop := ∀ b xs, H1 b = some (.tup xs) → H b = some (.tup xs)
def tForG (tg : TGen2) (g : TG) (tb : TS) : TS := fun D σ H => tg σ H fun out H1 => ∃ Pv : Nat → L2.St → Hp → Prop, Pv 0 σ H1 ∧ (∀ i σ H, Pv i σ H → KeepT H1 H) ∧
  (∀ i x σ H, out[i]? = some x → Pv i σ H → g x σ H fun σ2 H2 => tb { D with nx := fun σ' H' => ∀ Hd, Drp H1 H' Hd → Pv (i + 1) σ' Hd, ct := fun σ' H' => ∀ Hd, Drp H1 H' Hd → Pv (i + 1) σ' Hd, bk := D.nx } σ2 H2) ∧
  ∀ σ H, Pv out.length σ H → D.nx σ H
section
variable {X : Cx} {k : Nat} {nm : List Str}
/-- what stands at the beginning of a turn -/
structure Turn2 (X : Cx) (pins : List (Addr × Obj)) (gp : Gp) (out : List V) (g : Nat) (i : Nat) (σ : L2.St) (H : Hp) (gs : GenState) (s : Shared) : Prop where
  inv : Inv X pins σ H s
  clean : CleanG s.gens
  good : Good2 gp.sz H s.heap
  own : ∀ b ∈ gp.own s.heap, gp.sz ≤ b ∧ FpOk X pins H b ∧ ∃ o, s.heap.get? b = some o ∧ NoC o
  goat : s.heap.get? gp.a = some gp.go
  size : gp.sz ≤ s.heap.objs.size
  le : i ≤ out.length
  goes : s.gens[g]? = some gs ∧ gs.Goes (model X.prog X.w) X.A.in1 (Over2 gp out) (Item2 gp out) (sizeLine - i) (.send .none) (s.setGen g .running)
theorem asked {gp : Gp} {out : List V} {pins : List (Addr × Obj)} {g i : Nat} {σ : L2.St} {H : Hp} {gs : GenState} {s : Shared} (hc : X.calm = true) (hr : Room (k + 3) X.A) (T : Turn2 X pins gp out g i σ H gs s) (hg : ∀ h : Heap, h.get? gp.a = some gp.go → h.IsGen gp.a g) :
    wpAny (model X.prog X.w) X.A (pyNext (.ref gp.a)) (fun r s4 => CleanG s4.gens ∧ Onw s.heap s4.heap ∧ g + 1 ≤ s4.gens.size ∧ match r with
      | some v => ∃ s₁ gs', gs'.bare = true ∧ Item2 gp out (sizeLine - i - 1) (s.setGen g .running) v s₁ (fun r' s'' => match sizeLine - i with
          | 0 => False
          | m + 1 => gs'.Goes (model X.prog X.w) X.A.in1 (Over2 gp out) (Item2 gp out) m r' s'') ∧ s4 = s₁.setGen g gs'
      | none => ∃ s₁ h', Done2 gp out (sizeLine - i) (s.setGen g .running) s₁ ∧ (∀ b o, s₁.heap.get? b = some o → h'.get? b = some o) ∧ s4 = { s₁.setGen g .finished with heap := h' }) (fun _ _ => False) s := by
  have hgl : g + 1 ≤ s.gens.size := (Array.getElem?_eq_some_iff.mp T.goes.1).1
  have base : wpAny (model X.prog X.w) X.A (pyNext (.ref gp.a)) (fun r s4 => match r with
      | some v => ∃ s₁ gs', gs'.bare = true ∧ Item2 gp out (sizeLine - i - 1) (s.setGen g .running) v s₁ (fun r' s'' => match sizeLine - i with
          | 0 => False
          | m + 1 => gs'.Goes (model X.prog X.w) X.A.in1 (Over2 gp out) (Item2 gp out) m r' s'') ∧ s4 = s₁.setGen g gs'
      | none => ∃ s₁ h', Done2 gp out (sizeLine - i) (s.setGen g .running) s₁ ∧ (∀ b o, s₁.heap.get? b = some o → h'.get? b = some o) ∧ s4 = { s₁.setGen g .finished with heap := h' }) (fun _ _ => False) s := by
    refine next_genG (Er := fun _ _ => False) (F := Done2 gp out) (T.inv.ok.hd hc) T.inv.nolimit ?_ (hg _ T.goat) T.goes.1 T.goes.2 (fun v s₁ gs' hb hv => ⟨s₁, gs', hb, hv, rfl⟩) (fun s₁ hp h' hk => ⟨s₁, h', hp, hk, rfl⟩) fun e s₁ he => he.elim
    have := hr.dp
    omega
  refine wpAny_gsz hgl (wpAny_mono (wpAny_onw (wpAny_clean T.clean base)) (fun r s4 h hsz => ⟨h.2.1, h.1, hsz, h.2.2⟩) fun e s4 h _ => h.2.2.elim)

/-- what is known throughout a loop over a generator -/
structure Over_ (X : Cx) (gp : Gp) (H1 : Hp) : Prop where
  P : gp.P = X.prog
  w : gp.w = X.w
  base : gp.base = X.base
  outer : gp.outer = X.stack
  os : gp.os = X.s_0.os
  sub : ∀ b o, gp.Hg b = some o → H1 b = some o ∧ ∃ xs, o = .tup xs
  old : ∀ b o, H1 b = some o → b < gp.sz
  l0 : X.s_0.heap.objs.size ≤ gp.sz
  lL : X.env.locals < gp.sz
  lC : ∀ x c, X.env.cells.lookup x = some c → c < gp.sz
  frz : ∀ b o u, X.H_0 b = some (.frz o u) → b < gp.sz
theorem Over_.tup {gp : Gp} {H1 H : Hp} (V : Over_ X gp H1) (k : KeepT H1 H) : ∀ b o, gp.Hg b = some o → H b = some o ∧ ∃ xs, o = .tup xs := fun b o e => by
  obtain ⟨h, xs, rfl⟩ := V.sub b o e
  exact ⟨k b xs h, xs, rfl⟩
/-- an item has been handed out -/
theorem handed {gp : Gp} {out : List V} {pins : List (Addr × Obj)} {g i : Nat} {σ : L2.St} {H H1 : Hp} {gs gs' : GenState} {s s₁ s4 : Shared} {v : Value} {kap : Resume → Shared → Prop} (V : Over_ X gp H1) (hk : KeepT H1 H) (T : Turn2 X pins gp out g i σ H gs s)
    (hb : gs'.bare = true) (it : Item2 gp out (sizeLine - i - 1) (s.setGen g .running) v s₁ kap) (e4 : s4 = s₁.setGen g gs') (onw : Onw s.heap s4.heap) :
    Inv X pins σ H s4 ∧ (∀ b ∈ gp.own s4.heap, gp.sz ≤ b ∧ FpOk X pins H b ∧ ∃ o, s4.heap.get? b = some o ∧ NoC o) ∧ s4.heap.get? gp.a = some gp.go := by
  obtain ⟨y1, y2, y3, y4, y5, y6, y7, y8⟩ := it
  have I := T.inv
  have h4 : s4.heap = s₁.heap := by rw [e4]; rfl
  have b4 : AllBare s4.gens := by rw [e4]; exact allBare_setGen y2 hb
  have o4 : s4.os = s.os := by
    have : s4.os = s₁.os := by rw [e4]; rfl
    rw [this, y1, V.os, I.os]
  refine ⟨after_gen (g := gp) I (by rw [h4]; exact y5) V.P V.w V.outer T.good (V.tup hk) (fun b hb => (T.own b hb).2.1) o4 b4 V.l0 V.lL V.lC, fun b hb => ?_, by rw [h4]; exact y4⟩
  rw [h4] at hb onw ⊢
  obtain ⟨⟨o, eo, no⟩, hw⟩ := y7 b hb
  have hw : b ∈ gp.own s.heap ∨ s.heap.get? b = none ∨ (gp.sz ≤ b ∧ ∃ o, s.heap.get? b = some o ∧ ¬ NoC o) := hw
  rcases hw with hw | hw | ⟨hw, ob, h1, h2⟩
  · exact ⟨(T.own b hw).1, (T.own b hw).2.1, o, eo, no⟩
  · have hge : s.heap.objs.size ≤ b := by
      refine Nat.le_of_not_lt fun z => ?_
      rw [onw.2 b z hw] at eo; cases eo
    exact ⟨Nat.le_trans T.size hge, I.fpOk hge (I.hok.fresh hge), o, eo, no⟩
  · refine ⟨hw, ⟨?_, fun z => ?_, fun z => ?_, .inr (Nat.le_trans V.l0 hw), fun x c e z => ?_, fun p hp z => ?_⟩, o, eo, no⟩
    · cases q : H b with
      | none => rfl
      | some u =>
        rcases T.good b u ob q h1 with z | z
        · exact absurd z (Nat.not_lt.mpr hw)
        · exact (h2 z).elim
    · rw [z] at hw; exact absurd V.lL (Nat.not_lt.mpr hw)
    · obtain ⟨_, ob2, ho, _⟩ := I.ok.funs.mem z
      exact absurd (Nat.lt_of_lt_of_le (Heap.lt_size ho) V.l0) (Nat.not_lt.mpr hw)
    · rw [← z] at hw; exact absurd (V.lC x c e) (Nat.not_lt.mpr hw)
    · obtain ⟨q1, _, _, _, q5⟩ := I.pin p hp
      rw [z, h1] at q1
      cases q1
      exact h2 q5
/-- the body has run; the generator's things were pinned -/
theorem rested {gp : Gp} {out : List V} {pins : List (Addr × Obj)} {g i : Nat} {σ6 : L2.St} {H H6 H1 : Hp} {gs' : GenState} {s₁ s6 : Shared} {h4 : Heap} {v : Value} {s0 : Shared} (V : Over_ X gp H1)
    (I6 : Inv X (pins ++ pinsAt (gp.own h4) h4) σ6 H6 s6) (hk : KeepT H1 (dropH gp.sz s6.heap H6)) (hh : h4 = s₁.heap) (own : ∀ b ∈ gp.own h4, gp.sz ≤ b ∧ FpOk X pins H b ∧ ∃ o, h4.get? b = some o ∧ NoC o) (goat : h4.get? gp.a = some gp.go)
    (it : Item2 gp out (sizeLine - i - 1) s0 v s₁ (fun r' s'' => match sizeLine - i with
          | 0 => False
          | m + 1 => gs'.Goes (model X.prog X.w) X.A.in1 (Over2 gp out) (Item2 gp out) m r' s'')) (clean : CleanG s6.gens) (hgs : s6.gens[g]? = some gs') (hi : i < out.length) :
    Sus gs' ∧ Turn2 X pins gp out g (i + 1) σ6 (dropH gp.sz s6.heap H6) gs' s6 := by
  obtain ⟨y1, y2, y3, y4, y5, y6, y7, y8⟩ := it
  subst hh
  have pin : ∀ b ∈ gp.own s₁.heap, s6.heap.get? b = s₁.heap.get? b ∧ H6 b = none := fun b hb => by
    obtain ⟨_, _, o, eo, _⟩ := own b hb
    have q := I6.pin (b, o) (List.mem_append_right _ (List.mem_append_right _ (mem_pinsAt hb eo)))
    exact ⟨by rw [q.1, eo], q.2.1⟩
  have Iu := I6.unpinned
  have Id := inv_drop (n := gp.sz) Iu V.frz
  have hL : gp.sz ∈ gp.own s₁.heap := List.mem_cons_of_mem _ (List.mem_cons_self ..)
  have eo : gp.own s6.heap = gp.own s₁.heap := ownF_same (pin _ hL).1
  have size : gp.sz ≤ s6.heap.objs.size := by
    obtain ⟨_, _, o, e, _⟩ := own _ hL
    have := (pin _ hL).1
    rw [e] at this
    exact Nat.le_of_lt (Heap.lt_size this)
  have nap : ∀ t : Shared, t.heap = s6.heap → t.os = s6.os → AllBare t.gens → Nap2 gp s₁ t := fun t e1 e2 e3 => by
    refine ⟨by rw [e2, y1, V.os, I6.os], e3, by rw [e1]; exact size, fun b hb => ⟨(own b hb).1, by rw [e1]; exact (pin b hb).1⟩, fun b o e => by rw [e1]; exact I6.bk b o (by rw [V.base] at e; exact e), fun b xs e => ?_, by rw [e1, V.base, V.outer]; exact I6.stack⟩
    rw [e1]
    have q := Id.hok b _ ((V.tup hk b _ e).1)
    have q : ObjOk X.prog X.w _ s6.heap b (.tup xs) := q
    rw [V.P, V.w]
    exact q
  have kap := y8 (s6.setGen g .running) (nap _ rfl rfl (allBare_setGen I6.bare rfl))
  cases hm : sizeLine - i with
  | zero => rw [hm] at kap; exact kap.1.elim
  | succ m =>
    rw [hm] at kap
    refine ⟨?_, Id, clean, good_drop Iu, fun b hb => ?_, ?_, size, hi, hgs, ?_⟩
    · cases gs' with
      | suspended => trivial
      | fresh c => exact nomatch kap.2.1
      | running => exact kap.1.elim
      | finished => exact kap.1.elim
    · rw [eo] at hb
      obtain ⟨h1, ⟨_, h2⟩, o, e, no⟩ := own b hb
      exact ⟨h1, ⟨drop_none (pin b hb).2, h2⟩, o, by rw [(pin b hb).1]; exact e, no⟩
    · rw [(pin _ (List.mem_cons_self ..)).1]; exact goat
    · have e : sizeLine - (i + 1) = m := by omega
      rw [e]
      exact kap.1

theorem ps_forG {iter : Expr} {x : Str} {px pos : Pos} {body : List Stmt} {tg : TGen2} {gt : TG} {tb : TS} (hp : PassesOwn (model X.prog X.w) X.A X.env X.xe) (hx : GF X) (hc : X.calm = true) (hi : PGen2 X k nm iter tg) (hr : Room (k + 3) X.A) (hg : PG X (.Name x px) gt) (hb : PSs X body tb)
    (hs : ∀ x, foldedSetIterable iter X.env x = pure x := by intro _; rfl) : PS X (.For (.Name x px) iter body [] pos) (tForG tg gt tb) := by
  refine ⟨fun pins s σ H D I h => ?_⟩
  have bs := bare_sleepers I.bare
  -- all that sleeps already is of no matter
  have main : ∀ s : Shared, CleanG s.gens → Inv X pins σ H s → wpAny (model X.prog X.w) X.A (exec (.For (.Name x px) iter body [] pos) X.env) (SP X pins D) X.xe s := by
    intro s c I
    refine wpAny_For (wpAny_mono (wpAny_clean c (hi.run pins s σ H _ I h)) (fun u s1 ⟨c1, H1, Hg, sc, out, a, g, cd, go, e, I1, sub, F, Pv, p0, hkeep, hstep, hend⟩ => ?_) fun e s' q => q.2) hs
    subst e
    refine wpAny_pyIter_gen (F.gen _ F.goat) ?_
    obtain ⟨gp, hgp⟩ : ∃ gp : Gp, gp = ⟨X.prog, X.w, X.base, X.stack, Hg, sc.heap.objs.size, sc.os, a, go, nm⟩ := ⟨_, rfl⟩
    have ega : gp.a = a := by rw [hgp]
    have ego : gp.go = go := by rw [hgp]
    have esz : gp.sz = sc.heap.objs.size := by rw [hgp]
    have V : Over_ X gp H1 := by
      subst hgp
      exact ⟨rfl, rfl, rfl, rfl, I1.os, fun b o e => ⟨sub b o e, F.tups b o e⟩, fun b o e => I1.hok.lt e, I1.sz, I1.lt, fun x c e => let ⟨v, q⟩ := I1.cell x c e; q.lt, fun b o u e => I1.hok.lt (I1.base.frzs b o u e)⟩
    have J1 : Inv X pins σ H1 s1 := I1.call' (ch := []) F.os (Un.kept F.keep) (I1.hok.kept F.keep) F.bare fun _ z => nomatch z
    have gen : ∀ h : Heap, h.get? gp.a = some gp.go → h.IsGen gp.a g := by rw [ega, ego]; exact F.gen
    have T0 : Turn2 X pins gp out g 0 σ H1 (.fresh cd) s1 := by
      refine ⟨J1, c1, fun b o u e _ => .inl (by rw [esz]; exact I1.hok.lt e), fun b hb => ?_, by rw [ega, ego]; exact F.goat, by rw [esz]; exact Nat.le_of_lt F.onw, Nat.zero_le _, F.at_, rfl, ?_⟩
      · have ho : gp.own s1.heap = [a, sc.heap.objs.size] := by rw [hgp]; exact F.own
        rw [ho] at hb
        have f : ∀ b, sc.heap.objs.size ≤ b → FpOk X pins H1 b := fun b z => I1.fpOk z (I1.hok.fresh z)
        rcases List.mem_cons.mp hb with rfl | hb
        · exact ⟨by rw [esz]; exact F.lo, f _ F.lo, go, F.goat, F.noc⟩
        · rw [List.mem_singleton.mp hb]
          obtain ⟨o, eo, no⟩ := F.frame
          exact ⟨by rw [esz]; exact Nat.le_refl _, f _ (Nat.le_refl _), o, eo, no⟩
      · have q := F.wake X.A.in1 (s1.setGen g .running) ⟨hr.hd, ?_, ?_⟩ I.ok.frames ?_
        · rw [hgp]; exact q
        · show X.A.depth + 3 * k + 5 < _
          have := hr.dp
          omega
        · show X.A.units + 1 + 16 * k + 200 < _
          have := hr.un
          omega
        · refine ⟨rfl, allBare_setGen F.bare rfl, Nat.le_of_lt F.onw, fun b hb => ⟨?_, rfl⟩, J1.bk, fun b xs e => ?_, J1.stack⟩
          · rw [F.own] at hb
            rcases List.mem_cons.mp hb with rfl | hb
            · exact F.lo
            · rw [List.mem_singleton.mp hb]; exact Nat.le_refl _
          · have q := J1.hok b _ (sub b _ e)
            exact q
    refine codeAny_forLoop_any (fun n s' => ∃ i σ H gs, n = out.length - i ∧ Turn2 X pins gp out g i σ H gs s' ∧ Pv i σ H) ?_ out.length ⟨0, σ, H1, _, rfl, T0, p0⟩
    rintro n s3 ⟨i, σ3, H3, gs, rfl, T, pv⟩
    rw [← ega]
    have hk := hkeep i σ3 H3 pv
    refine wpAny_passesOwn hp (wpAny_mono (asked hc hr T gen) (fun r s4 ⟨c4, onw, hsz, h4⟩ => ?_) fun _ _ z => z.elim)
    cases r with
    | none =>
      obtain ⟨s₁, h', ⟨hn, os1, b1, K⟩, kept, e4⟩ := h4
      have ei : i = out.length := by have := T.le; omega
      subst ei
      have J2 : Inv X pins σ3 H3 s₁ := after_gen (g := gp) T.inv K V.P V.w V.outer T.good (V.tup hk) (fun b hb => (T.own b hb).2.1) (by rw [os1, V.os, T.inv.os]) b1 V.l0 V.lL V.lC
      have J3 : Inv X pins σ3 H3 s4 := by
        rw [e4]
        exact J2.call' (ch := []) rfl (Un.kept kept) (J2.hok.kept kept) (allBare_setGen b1 rfl) fun _ z => nomatch z
      exact wpAny_execs_nil ⟨σ3, H3, J3, hend σ3 H3 pv⟩
    | some v =>
      obtain ⟨s₁, gs', hbare, it, e4⟩ := h4
      obtain ⟨I4, own4, goat4⟩ := handed V hk T hbare it e4 onw
      obtain ⟨⟨j, xx, hn, hx', rx⟩, _⟩ := it.2.2.2.2.2
      have hj : j = i ∧ i < sizeLine := by
        have h1 := (Array.getElem?_eq_some_iff.mp T.goes.1).1
        by_cases hz : sizeLine - i = 0
        · exfalso
          have y8 := it.2.2.2.2.2.2.2
          rw [hz] at y8
          refine (y8 s4 ⟨by rw [e4]; rfl, I4.bare, ?_, fun b hb => ⟨?_, by rw [e4]; rfl⟩, fun b o e => I4.bk b o (by rw [V.base] at e; exact e), fun b xs e => ?_, by rw [V.base, V.outer]; exact I4.stack⟩).1
          · exact Nat.le_trans T.size onw.1
          · have h4 : s4.heap = s₁.heap := by rw [e4]; rfl
            exact (own4 b (by rw [h4]; exact hb)).1
          · have q := I4.hok b _ ((V.tup hk b _ e).1)
            have q : ObjOk X.prog X.w _ s4.heap b (.tup xs) := q
            rw [V.P, V.w]
            exact q
        · omega
      have ej := hj.1
      subst ej
      have hlt : j < out.length := (List.getElem?_eq_some_iff.mp hx').1
      have I4p : Inv X (pins ++ pinsAt (gp.own s4.heap) s4.heap) σ3 H3 s4 := I4.pinned (fun b hb => (own4 b hb).2.1) fun b hb => (own4 b hb).2.2
      have hgs4 : s4.gens[g]? = some gs' := by
        rw [e4]
        have : s₁.gens.size = s4.gens.size := by rw [e4]; exact (setGen_size _ _ _).symm
        exact setGen_at (by omega)
      have hh4 : s4.heap = s₁.heap := by rw [e4]; rfl
      have cl : ∀ k l d p fs cl, gs' = .suspended k l d p fs cl → splitAtGen fs = none := fun k l d p fs cl e => c4 g k l d p fs cl (by rw [hgs4, e])
      -- it sleeps, and cannot be woken by the body
      have sus : Sus gs' := (rested (H6 := H3) (s6 := s4) (σ6 := σ3) V (by exact I4p) (fun b xs e => drop_get (hk b xs e) (.inr (.inl trivial))) hh4 own4 goat4 it c4 hgs4 hlt).1
      have hbO : ∀ i y, oneG g gs' i = some y → y.bare = true := fun i y e => by
        unfold oneG at e
        split at e
        · cases e; exact hbare
        · cases e
      have S4 : Sim (oneG g gs') { s4 with gens := s4.gens.setIfInBounds g (pz gs') } s4 := ⟨clean_one c4, rel_one hgs4 sus, rfl⟩
      have I4s : Inv X (pins ++ pinsAt (gp.own s4.heap) s4.heap) σ3 H3 { s4 with gens := s4.gens.setIfInBounds g (pz gs') } := inv_gens I4p rfl rfl (allBare_setGen (s := s4) I4p.bare (bare_pz hbare))
      show wpAny _ _ (letOwnedTupleGo (.Name x px) (.ref gp.a) v) _ _ _
      refine wpAny_pure ?_
      refine wpAny_passesOwn hp (wpAny_mono (wpAny_sim S4 (hg.run _ _ σ3 H3 xx v _ I4s rx (hstep j xx σ3 H3 hx' pv))) (fun _ s5 ⟨s5', S5, σ5, H5, I5, q5⟩ => ?_) fun e s5 ⟨s5', S5, q⟩ => hx _ _ _ e S5 hbO q)
      refine wpAny_passesOwn hp (wpAny_mono (wpAny_sim S5 (hb.run _ s5' σ5 H5 _ I5 q5)) (fun f s6 ⟨s6', S6, q6⟩ => ?_) fun e s6 ⟨s6', S6, q⟩ => hx _ _ _ e S6 hbO q)
      have q7 := sp_sim S6 hbO q6
      have again : ∀ {σ6 : L2.St} {H6 : Hp}, Inv X (pins ++ pinsAt (gp.own s4.heap) s4.heap) σ6 H6 s6 → (∀ Hd, Drp H1 H6 Hd → Pv (j + 1) σ6 Hd) → ∃ m, m < out.length - j ∧ ∃ i σ H gs, m = out.length - i ∧ Turn2 X pins gp out g i σ H gs s6 ∧ Pv i σ H := fun {σ6 H6} I6 n6 => by
        have pn := n6 _ (drp_drop (s := s6) V.old)
        obtain ⟨_, T6⟩ := rested V I6 (hkeep _ _ _ pn) hh4 own4 goat4 it (clean_back S6 cl) (((S6.2.1.2 g).1 gs' (by unfold oneG; rw [if_pos rfl])).2.2) hlt
        exact ⟨out.length - (j + 1), by omega, j + 1, σ6, _, gs', rfl, T6, pn⟩
      cases f with
      | next => obtain ⟨σ6, H6, I6, n6⟩ := q7; exact again I6 n6
      | cont => obtain ⟨σ6, H6, I6, n6⟩ := q7; exact again I6 n6
      | brk => obtain ⟨σ6, H6, I6, n6⟩ := q7; exact ⟨σ6, H6, I6.unpinned, n6⟩
      | ret v => obtain ⟨y, σ6, H6, I6, ry, n6⟩ := q7; exact ⟨y, σ6, H6, I6.unpinned, ry, n6⟩
  refine wpAny_mono (wpAny_asleep (main _ (clean_sleepers _) (inv_gens I rfl rfl (bare_map I.bare)))) (fun f t ⟨s', S, q⟩ => sp_sim S bs q) fun e t ⟨s', S, q⟩ => hx _ _ _ e S bs q
end
end Own
namespace Own
open PySem PySem.Spec PyProof.Rows L2 SX GenW
/-- the tuples of a heap -/
def tupsOf (H : Hp) : Hp := fun b => match H b with
  | some (.tup xs) => some (.tup xs)
  | _ => none
theorem tupsOf_some {H : Hp} {b : Addr} {o : HO} (e : tupsOf H b = some o) : H b = some o ∧ ∃ xs, o = .tup xs := by
  unfold tupsOf at e
  split at e
  · rename_i xs q
    cases e
    exact ⟨q, xs, rfl⟩
  · cases e
theorem tupsOf_get {H : Hp} {b : Addr} {xs : List V} (e : H b = some (.tup xs)) : tupsOf H b = some (.tup xs) := by unfold tupsOf; rw [e]
theorem tupsOf_none {H : Hp} {b : Addr} (e : H b = none) : tupsOf H b = none := by unfold tupsOf; rw [e]
theorem env0_tups {P : Program} {w : World} {K : PySem.W.Frag} {mg : Str → Option Value} {base : Heap} {A : Around} {outer : List Env} {s : Shared} {H : Hp} (e0 : Env0 P w K mg base A outer s H) : Env0 P w K mg base A outer s (tupsOf H) :=
  ⟨e0.frames, e0.mod, fun b o e => ⟨(e0.bs b o e).1, tupsOf_none (e0.bs b o e).2⟩, e0.bsz, e0.funs, fun b hb => tupsOf_none (e0.frf b hb), fun b o e => by
    obtain ⟨q, xs, rfl⟩ := tupsOf_some e
    have z := e0.hok b _ q
    exact z, e0.bare⟩
section
variable {X : Cx} {k : Nat} {f : Addr} {fd : FuncData} {ps nm : List Str} {sp : SpT} {x : Str} {p pos : Pos} {e : Expr} {es : List Expr} {t : TA}
def tGen2 (sp : SpT) (t : TA) : TGen2 := fun σ H cont => t σ H fun vs H1 => ∃ out, sp vs (tupsOf H1) out ∧ cont out H1
/-- f(e, ..) of a generator def -/
theorem pgn2_call (F : GFn2 X.prog X.w X.K X.mg X.base k f fd ps nm sp) (hr : Room k X.A) (hg : Gl X x) (hm : X.mg x = some (.ref f)) (hk : PySem.W.keepIn X.K (.ref f) = true) (hb : L2.Binds X.K fd ps []) (ha : PA X (e :: es) t)
    (hdb : (x == ("__debug__" : Str)) = false := by decide) (he : starEach (e :: es) X.env = (false, eval e X.env) :: starEach es X.env := by rfl) (hpl : (backTo pos (starEach es X.env)).any (·.1) = false := by rfl) :
    PGen2 X k nm (.Call (.Name x p) (e :: es) [] pos) (tGen2 sp t) := by
  refine ⟨fun pins s σ H cont I h => ?_⟩
  refine wpAny_Call_Name_kw (ld_glob I hg hm ?_ hdb)
  refine PySem.W.callWith_K (h₀ := X.base) I.ok.mod.kin hk (thn (ha.run pos pins s σ H _ I h) fun us s1 ⟨vs, H1, I1, r, out, q, hcont⟩ => ⟨I1.kIn, ?_⟩) he hpl
  have hl := F.len _ _ _ q
  have hbt := hb s1 us I1.kIn (by rw [List.append_nil, ← hl]; exact r.length.symm)
  rw [List.append_nil] at hbt
  refine wpAny_call (codeAny_mono (F.run X.A X.stack s1 (tupsOf H1) ⟨us, []⟩ us vs out hr (env0_tups I1.env0) (fun b o e => (tupsOf_some e).2) hbt r q) fun y s' hq => ?_)
  obtain ⟨a, g, c, go, rfl, G⟩ := hq
  exact ⟨H1, tupsOf H1, s1, out, a, g, c, go, rfl, I1, fun b o e => (tupsOf_some e).1, G, hcont⟩
end
end Own

/-! Prg1: programs as sequences; their texts; what is left of a text while it is read -/
namespace Prg
open Cnd
/-- a program without brackets: fill has its text as read and as templates write it -/
inductive Lf where
  | skip
  | fill (a x : List Nat)
  | fail (n : List Nat)
  | call (n : List Nat)
/-- a sequence of programs: one that stands alone, or a block -/
inductive Pr where
  | nil
  | leaf (l : Lf) (r : Pr)
  | whil (c : Cd) (p : Pr) (r : Pr)
  | cond (c : Cd) (p q : Pr) (r : Pr)
abbrev skipT : List Nat := [115, 107, 105, 112]
abbrev fillT : List Nat := [102, 105, 108, 108, 32]
abbrev failT : List Nat := [102, 97, 105, 108, 32]
abbrev callT : List Nat := [99, 97, 108, 108, 32]
abbrev whilT : List Nat := [119, 104, 105, 108, 101, 32]
abbrev ifT : List Nat := [105, 102, 32]
def lTx : Lf → List Nat
  | .skip => skipT
  | .fill a _ => fillT ++ a
  | .fail n => failT ++ n
  | .call n => callT ++ n
def some? : Pr → Bool
  | .nil => false
  | _ => true
/-- what stands between a program and the rest of its sequence -/
def semi (r : Pr) (t : List Nat) : List Nat := if some? r then 59 :: 32 :: t else []
def pTx : Pr → List Nat
  | .nil => []
  | .leaf l r => lTx l ++ semi r (pTx r)
  | .whil c p r => whilT ++ (cTx c ++ (32 :: 91 :: (pTx p ++ (93 :: semi r (pTx r)))))
  | .cond c p q r => ifT ++ (cTx c ++ (32 :: 91 :: (pTx p ++ (93 :: 32 :: 91 :: (pTx q ++ (93 :: semi r (pTx r)))))))
/-- a bracket that is open: what comes behind it -/
inductive Op where
  | whil (c : Cd) (r : Pr)
  | fst (c : Cd) (q r : Pr)
  | snd (c : Cd) (p r : Pr)
/-- what still comes behind the program that is read: the rest of its sequence, then the brackets, the innermost first -/
def rest : Pr → List Op → List Nat
  | r, [] => semi r (pTx r)
  | r, .whil _ r2 :: fs => semi r (pTx r) ++ (93 :: rest r2 fs)
  | r, .fst c q r2 :: fs => semi r (pTx r) ++ (93 :: 32 :: 91 :: (pTx q ++ (93 :: rest r2 fs)))
  | r, .snd _ _ r2 :: fs => semi r (pTx r) ++ (93 :: rest r2 fs)
theorem leaf_text {l : Lf} {r : Pr} : ∀ (fs : List Op), (match fs with
    | [] => pTx (.leaf l r)
    | .whil _ r2 :: fs => pTx (.leaf l r) ++ (93 :: rest r2 fs)
    | .fst c q r2 :: fs => pTx (.leaf l r) ++ (93 :: 32 :: 91 :: (pTx q ++ (93 :: rest r2 fs)))
    | .snd _ _ r2 :: fs => pTx (.leaf l r) ++ (93 :: rest r2 fs)) = lTx l ++ rest r fs
  | [] => rfl
  | .whil _ r2 :: fs => by show (lTx l ++ semi r (pTx r)) ++ _ = _; rw [List.append_assoc]; rfl
  | .fst c q r2 :: fs => by show (lTx l ++ semi r (pTx r)) ++ _ = _; rw [List.append_assoc]; rfl
  | .snd _ _ r2 :: fs => by show (lTx l ++ semi r (pTx r)) ++ _ = _; rw [List.append_assoc]; rfl
/-- how much is left to read -/
def size : Pr → Nat
  | .nil => 0
  | .leaf _ r => size r + 1
  | .whil _ p r => size p + size r + 1
  | .cond _ p q r => size p + size q + size r + 1
end Prg

namespace Own
open PySem PySem.Spec PyProof.Rows L2 SX
/-! ### the first place at which two texts differ -/
/-! ### promises -/
/-- two templates as they lie -/
structure TwoT (C : Addr) (H : Hp) (p1 p2 : Addr) (gs hs : List Nat) (i1 i2 : List (List Nat)) : Prop where
  t1 : Tm C H p1 gs i1
  t2 : Tm C H p2 hs i2
  g1 : Good gs
  g2 : Good hs
  r1 : Row gs i1
  r2 : Row hs i2
  l1 : i1.length ≤ 100
  l2 : i2.length ≤ 100
theorem TwoT.same {C : Addr} {H H' : Hp} {p1 p2 : Addr} {gs hs : List Nat} {i1 i2 : List (List Nat)} (t : TwoT C H p1 p2 gs hs i1 i2) (s : Same H H') : TwoT C H' p1 p2 gs hs i1 i2 :=
  ⟨t.t1.same s, t.t2.same s, t.g1, t.g2, t.r1, t.r2, t.l1, t.l2⟩
end Own

/-! Pt1: patterns as they are read: a sequence of atoms and bars; their texts; what they tell between two places of a text -/
namespace Pt
open Cnd
inductive X where
  | nil
  | bar (r : X)
  | sym (s : Nat) (st : Bool) (r : X)
  | grp (g : X) (st : Bool) (r : X)
abbrev stT (st : Bool) : List Nat := if st then [42] else []
/-- the text -/
def tx : X → List Nat
  | .nil => []
  | .bar r => 124 :: tx r
  | .sym s st r => s :: (stT st ++ tx r)
  | .grp g st r => 40 :: (tx g ++ (41 :: (stT st ++ tx r)))
def app : X → X → X
  | .nil, y => y
  | .bar r, y => .bar (app r y)
  | .sym s st r, y => .sym s st (app r y)
  | .grp g st r, y => .grp g st (app r y)
def Ok (gs : List Nat) : X → Prop
  | .nil => True
  | .bar r => Ok gs r
  | .sym s _ r => (s ∈ gs ∨ s = 46) ∧ Ok gs r
  | .grp g _ r => Ok gs g ∧ Ok gs r
theorem Ok.app {gs : List Nat} : ∀ {x y : X}, Ok gs x → Ok gs y → Ok gs (app x y)
  | .nil, _, _, h => h
  | .bar r, _, h, k => Ok.app (x := r) h k
  | .sym _ _ r, _, ⟨a, h⟩, k => ⟨a, Ok.app (x := r) h k⟩
  | .grp _ _ r, _, ⟨a, h⟩, k => ⟨a, Ok.app (x := r) h k⟩
/-- how many signs read -/
def reads : X → Nat
  | .nil => 0
  | .bar r => reads r
  | .sym _ _ r => reads r + 1
  | .grp g _ r => reads g + reads r
/-! ### what is told between two places -/
abbrev Rel := Nat → Nat → Prop
def idR : Rel := fun i j => i = j
def thenR (P Q : Rel) : Rel := fun i j => ∃ k, P i k ∧ Q k j
inductive starR (P : Rel) : Rel
  | refl (i : Nat) : starR P i i
  | step {i k j : Nat} : starR P i k → P k j → starR P i j
def stR (st : Bool) (P : Rel) : Rel := if st then starR P else P
/-- a sign at a place of w: a point stands for each letter -/
def symR (w : List Nat) (s : Nat) : Rel := fun i j => j = i + 1 ∧ ∃ c, w[i]? = some c ∧ (s = c ∨ s = 46)
/-- P: what the row has told so far -/
def den (w : List Nat) : X → Rel → Rel
  | .nil, P => P
  | .bar r, P => fun i j => P i j ∨ den w r idR i j
  | .sym s st r, P => den w r (thenR P (stR st (symR w s)))
  | .grp g st r, P => den w r (thenR P (stR st (den w g idR)))
/-- the text w is one of the pattern's -/
def Told (w : List Nat) (x : X) : Prop := den w x idR 0 w.length
end Pt

/-! Pt2: sets of places; the net of a pattern -/
namespace Pt
abbrev Pl := Nat → Prop
/-! ### the net -/
structure Net where
  reads : List (List Nat)
  jumps : List (List Nat)
def Net.piece (N : Net) (r : List Nat) : Net := ⟨N.reads ++ [r, []], N.jumps ++ [[], []]⟩
def Net.link (N : Net) (a b : Nat) : Net := ⟨N.reads, N.jumps.modify a (· ++ [b])⟩
/-- the letters for which a sign stands -/
def rl (gs : List Nat) (s : Nat) : List Nat := if s = 46 then gs else if s ∈ gs then [s] else []
def Net.star (N : Net) (st : Bool) (a : Nat) : Net := if st then (N.link a (a + 1)).link (a + 1) a else N
end Pt

/-! Pt3: what a net reads; all told places are reached -/
namespace Pt
def Jp (N : Net) (a b : Nat) : Prop := ∃ l, N.jumps[a]? = some l ∧ b ∈ l
/-- F has all that N has -/
structure Ext (N F : Net) : Prop where
  rd : ∀ (n : Nat) (l : List Nat), N.reads[n]? = some l → F.reads[n]? = some l
  jp : ∀ a b, Jp N a b → Jp F a b
theorem Ext.refl (N : Net) : Ext N N := ⟨fun _ _ h => h, fun _ _ h => h⟩
theorem Ext.trans {A B C : Net} (h : Ext A B) (k : Ext B C) : Ext A C := ⟨fun n l e => k.rd n l (h.rd n l e), fun a b e => k.jp a b (h.jp a b e)⟩
/-- as many lists of jumps as of signs -/
def Wf (N : Net) : Prop := N.jumps.length = N.reads.length
theorem wf_link {N : Net} {a b : Nat} (h : Wf N) : Wf (N.link a b) ∧ (N.link a b).reads.length = N.reads.length := by
  refine ⟨?_, rfl⟩
  show (N.jumps.modify a (· ++ [b])).length = N.reads.length
  rw [List.length_modify]
  exact h
theorem wf_piece {N : Net} {r : List Nat} (h : Wf N) : Wf (N.piece r) ∧ (N.piece r).reads.length = N.reads.length + 2 := by
  refine ⟨?_, by show (N.reads ++ [r, []]).length = _; rw [List.length_append]; rfl⟩
  show (N.jumps ++ [[], []]).length = (N.reads ++ [r, []]).length
  rw [List.length_append, List.length_append, h]
  rfl
end Pt

/-! Pt4: all told places are reached -/
namespace Pt
end Pt

/-! Pt5: what the net reads, the pattern tells -/
namespace Pt
/-- V keeps to the edges of N, all of which lie in N -/
structure Cl (N : Net) (w : List Nat) (V : Nat → Pl) : Prop where
  jp : ∀ a b, Jp N a b → ∀ j, V a j → V b j
  rd : ∀ (n : Nat) (l : List Nat) (i c : Nat), N.reads[n]? = some l → w[i]? = some c → c ∈ l → V n i → V (n + 1) (i + 1)
  jb : ∀ a b, Jp N a b → a < N.reads.length ∧ b < N.reads.length
  rb : ∀ (n : Nat) (l : List Nat) (c : Nat), N.reads[n]? = some l → c ∈ l → n + 1 < N.reads.length
theorem jp_of_link {N : Net} {a b c d : Nat} (h : Jp (N.link a b) c d) : Jp N c d ∨ (c = a ∧ d = b) := by
  obtain ⟨l, e, m⟩ := h
  have e : (N.jumps.modify a (· ++ [b]))[c]? = some l := e
  rw [List.getElem?_modify] at e
  cases f : N.jumps[c]? with
  | none => rw [f] at e; simp at e
  | some k =>
    rw [f] at e
    by_cases g : a = c
    · have e : k ++ [b] = l := by simpa [g] using e
      subst e
      rcases List.mem_append.mp m with m | m
      · exact .inl ⟨k, f, m⟩
      · exact .inr ⟨g.symm, List.mem_singleton.mp m⟩
    · have e : k = l := by simpa [g] using e
      subst e
      exact .inl ⟨k, f, m⟩
end Pt

/-! Pt6: what the net reads, the pattern tells -/
namespace Pt
end Pt

/-! Pt7: rows and branches; the rounds of a star -/
namespace Pt
def more : X → Option X
  | .nil => none
  | .bar r => some r
  | .sym _ _ r => more r
  | .grp _ _ r => more r
/-! ### rounds -/
open Classical in
/-- how many places up to L -/
noncomputable def cnt (L : Nat) (P : Pl) : Nat := ((List.range (L + 1)).filter fun j => decide (P j)).length
end Pt

/-! Pt8: the nodes after so many signs -/
namespace Pt
inductive JS (N : Net) : Nat → Nat → Prop
  | refl (a : Nat) : JS N a a
  | step {a b c : Nat} : JS N a b → Jp N b c → JS N a c
end Pt

/-! Pt9: how many nodes read -/
namespace Pt
end Pt

/-! Pt10: the net sign by sign -/
namespace Pt
structure St where
  N : Net
  gr : List (Nat × Nat)
  now : Nat
  pc : Nat × Nat
def top (t : St) : Nat × Nat := t.gr.headD (0, 0)
def stp (gs : List Nat) (t : St) (c : Nat) : St :=
  if c = 124 then ⟨t.N.link t.now (top t).2, t.gr, (top t).1, t.pc⟩
  else if c = 42 then ⟨(t.N.link t.pc.1 t.pc.2).link t.pc.2 t.pc.1, t.gr, t.now, t.pc⟩
  else if c = 41 then ⟨t.N.link t.now (top t).2, t.gr.tail, (top t).2, top t⟩
  else if c = 40 then ⟨(t.N.piece (rl gs c)).link t.now t.N.reads.length, (t.N.reads.length, t.N.reads.length + 1) :: t.gr, t.N.reads.length, (t.N.reads.length, t.N.reads.length + 1)⟩
  else ⟨(t.N.piece (rl gs c)).link t.now t.N.reads.length, t.gr, t.N.reads.length + 1, (t.N.reads.length, t.N.reads.length + 1)⟩
/-- what holds of the net after i signs -/
structure OkSt (i : Nat) (t : St) : Prop where
  wf : Wf t.N
  gr : ∀ g ∈ t.gr, g.1 < t.N.reads.length ∧ g.2 < t.N.reads.length
  now : t.now < t.N.reads.length
  p1 : t.pc.1 < t.N.reads.length
  p2 : t.pc.2 < t.N.reads.length
  len : t.N.reads.length ≤ 2 + 2 * i
  jl : ∀ l ∈ t.N.jumps, l.length ≤ 2 * i
  two : 2 ≤ t.N.reads.length
  jb : ∀ a b, Jp t.N a b → b < t.N.reads.length
  gl : t.gr.length ≤ i + 1
  rb : ∀ n l, t.N.reads[n]? = some l → l ≠ [] → n + 1 < t.N.reads.length
theorem rb_piece {N : Net} {r : List Nat} (h : ∀ n l, N.reads[n]? = some l → l ≠ [] → n + 1 < N.reads.length) : ∀ n l, (N.piece r).reads[n]? = some l → l ≠ [] → n + 1 < N.reads.length + 2 := fun n l e ne => by
  have e : (N.reads ++ [r, []])[n]? = some l := e
  by_cases g : n < N.reads.length
  · omega
  · rw [List.getElem?_append_right (by omega)] at e
    match k : n - N.reads.length with
    | 0 => omega
    | 1 => rw [k] at e; simp at e; exact absurd (by first | exact e | exact e.symm) ne
    | j + 2 => rw [k] at e; simp at e
theorem jb_link {N : Net} {a b L : Nat} (h : ∀ a b, Jp N a b → b < L) (hb : b < L) : ∀ c d, Jp (N.link a b) c d → d < L := fun c d j => by
  rcases jp_of_link j with j | ⟨_, rfl⟩
  · exact h c d j
  · exact hb
theorem jb_piece {N : Net} {r : List Nat} {L : Nat} (h : ∀ a b, Jp N a b → b < L) : ∀ a b, Jp (N.piece r) a b → b < L := fun a b ⟨l, e, m⟩ => by
  have e : (N.jumps ++ [[], []])[a]? = some l := e
  by_cases g : a < N.jumps.length
  · rw [List.getElem?_append_left g] at e
    exact h a b ⟨l, e, m⟩
  · rw [List.getElem?_append_right (by omega)] at e
    have : l ∈ [([] : List Nat), []] := List.mem_of_getElem? e
    simp at this
    subst this
    cases m
theorem link_len {N : Net} {a b k : Nat} (h : ∀ l ∈ N.jumps, l.length ≤ k) : ∀ l ∈ (N.link a b).jumps, l.length ≤ k + 1 := by
  intro l hl
  obtain ⟨i, hi, e⟩ := List.mem_iff_getElem.mp hl
  have e2 : (N.jumps.modify a (· ++ [b]))[i]? = some l := by
    rw [← e]; exact List.getElem?_eq_getElem hi
  rw [List.getElem?_modify] at e2
  cases f : N.jumps[i]? with
  | none => rw [f] at e2; simp at e2
  | some q =>
    rw [f] at e2
    have hq := h q (List.mem_of_getElem? f)
    have e2 : some (if a = i then q ++ [b] else q) = some l := e2
    by_cases g : a = i
    · rw [if_pos g] at e2
      have : q ++ [b] = l := by simpa using e2
      rw [← this, List.length_append]
      exact Nat.add_le_add_right hq 1
    · rw [if_neg g] at e2
      have : q = l := by simpa using e2
      rw [← this]
      omega
theorem piece_len {N : Net} {r : List Nat} {k : Nat} (h : ∀ l ∈ N.jumps, l.length ≤ k) : ∀ l ∈ (N.piece r).jumps, l.length ≤ k := by
  intro l hl
  have hl : l ∈ N.jumps ++ [[], []] := hl
  rcases List.mem_append.mp hl with m | m
  · exact h l m
  · simp at m
    subst m
    exact Nat.zero_le _
theorem OkSt.step {gs : List Nat} {i c : Nat} {t : St} (h : OkSt i t) (ne : c = 124 ∨ c = 41 → t.gr ≠ []) : OkSt (i + 1) (stp gs t c) := by
  have htop : c = 124 ∨ c = 41 → top t ∈ t.gr := fun z => by
    have := ne z
    unfold top
    cases e : t.gr with
    | nil => exact absurd e this
    | cons a l => exact List.mem_cons_self ..
  have l0 := h.len
  unfold stp
  by_cases h1 : c = 124
  · rw [if_pos h1]
    have ht := h.gr _ (htop (.inl h1))
    exact ⟨(wf_link h.wf).1, h.gr, ht.1, h.p1, h.p2, by show t.N.reads.length ≤ _; omega, fun l m => Nat.le_trans (link_len h.jl l m) (by omega), h.two, jb_link h.jb ht.2, Nat.le_succ_of_le h.gl, h.rb⟩
  rw [if_neg h1]
  by_cases h2 : c = 42
  · rw [if_pos h2]
    exact ⟨(wf_link (wf_link h.wf).1).1, h.gr, h.now, h.p1, h.p2, by show t.N.reads.length ≤ _; omega, fun l m => Nat.le_trans (link_len (link_len h.jl) l m) (by omega), h.two, jb_link (jb_link h.jb h.p2) h.p1, Nat.le_succ_of_le h.gl, h.rb⟩
  rw [if_neg h2]
  by_cases h3 : c = 41
  · rw [if_pos h3]
    have ht := h.gr _ (htop (.inr h3))
    exact ⟨(wf_link h.wf).1, fun g m => h.gr g (List.mem_of_mem_tail m), ht.2, ht.1, ht.2, by show t.N.reads.length ≤ _; omega, fun l m => Nat.le_trans (link_len h.jl l m) (by omega), h.two, jb_link h.jb ht.2, by show t.gr.tail.length ≤ _; rw [List.length_tail]; have := h.gl; omega, h.rb⟩
  rw [if_neg h3]
  have w1 := wf_piece (r := rl gs c) h.wf
  have w2 := wf_link (a := t.now) (b := t.N.reads.length) w1.1
  have el : ((t.N.piece (rl gs c)).link t.now t.N.reads.length).reads.length = t.N.reads.length + 2 := w2.2.trans w1.2
  have hj : ∀ l ∈ ((t.N.piece (rl gs c)).link t.now t.N.reads.length).jumps, l.length ≤ 2 * (i + 1) := fun l m => Nat.le_trans (link_len (piece_len h.jl) l m) (by omega)
  have h0 := h.now
  have hb : ∀ a b, Jp ((t.N.piece (rl gs c)).link t.now t.N.reads.length) a b → b < t.N.reads.length + 2 := jb_link (jb_piece fun a b j => Nat.lt_of_lt_of_le (h.jb a b j) (Nat.le_add_right _ _)) (by omega)
  have hgr : ∀ g ∈ t.gr, g.1 < t.N.reads.length + 2 ∧ g.2 < t.N.reads.length + 2 := fun g m => by have := h.gr g m; omega
  by_cases h4 : c = 40
  · rw [if_pos h4]
    refine ⟨w2.1, fun g m => ?_, ?_, ?_, ?_, ?_, hj, ?_, ?_, ?_, fun n l e ne => el ▸ rb_piece h.rb n l e ne⟩
    · rw [el]
      rcases List.mem_cons.mp m with rfl | m
      · exact ⟨by show t.N.reads.length < _; omega, by show t.N.reads.length + 1 < _; omega⟩
      · exact hgr g m
    all_goals (show _; simp only [el]; first | omega | exact hb | exact Nat.succ_le_succ h.gl | exact Nat.le_succ_of_le h.gl)
  · rw [if_neg h4]
    refine ⟨w2.1, fun g m => ?_, ?_, ?_, ?_, ?_, hj, ?_, ?_, ?_, fun n l e ne => el ▸ rb_piece h.rb n l e ne⟩
    · rw [el]; exact hgr g m
    all_goals (show _; simp only [el]; first | omega | exact hb | exact Nat.succ_le_succ h.gl | exact Nat.le_succ_of_le h.gl)
end Pt

namespace Own
open PySem PySem.Spec PyProof.Rows L2 SX GenW
/-! ### programs as trees of nodes -/
/-- what stands directly in a program -/
def PrtH (H : Hp) (v : V) (ps : List V) : Prop := ∃ a kd xs, v = .ref a ∧ H a = some (.tup (.str kd :: xs)) ∧ xs.length ≤ 1000 ∧
  ((kd = Str.ofString "block" ∧ ps = xs) ∨ ((kd = Str.ofString "if" ∨ kd = Str.ofString "while") ∧ ∃ c, xs = c :: ps) ∨
   ((kd = Str.ofString "skip" ∨ kd = Str.ofString "fill" ∨ kd = Str.ofString "fail" ∨ kd = Str.ofString "call") ∧ ps = []))
/-- a program and all programs in it, in order -/
inductive Nod (H : Hp) : V → List V → Prop
  | mk {v : V} {ps : List V} {outs : List (List V)} (h : PrtH H v ps) (k : Paired (Nod H) ps outs) : Nod H v (v :: outs.flatten)
theorem Nod.inv {H : Hp} {v : V} {out : List V} (n : Nod H v out) : ∃ ps outs, PrtH H v ps ∧ Paired (Nod H) ps outs ∧ out = v :: outs.flatten := by
  cases n with
  | mk h k => exact ⟨_, _, h, k, rfl⟩
theorem PrtH.keep {H H' : Hp} {v : V} {ps : List V} (k : ∀ a xs, H a = some (.tup xs) → H' a = some (.tup xs)) (h : PrtH H v ps) : PrtH H' v ps := by
  obtain ⟨a, kd, xs, e, h1, h2, h3⟩ := h
  exact ⟨a, kd, xs, e, k _ _ h1, h2, h3⟩
theorem Nod.keep {H H' : Hp} (k : ∀ a xs, H a = some (.tup xs) → H' a = some (.tup xs)) : ∀ {v : V} {out : List V}, Nod H v out → Nod H' v out := by
  have main : ∀ (n : Nat) (v : V) (out : List V), out.length ≤ n → Nod H v out → Nod H' v out := by
    intro n
    induction n with
    | zero =>
      intro v out hl h
      obtain ⟨ps, outs, _, _, rfl⟩ := h.inv
      simp at hl
    | succ n ih =>
      intro v out hl h
      obtain ⟨ps, outs, hp, hk, rfl⟩ := h.inv
      refine .mk (hp.keep k) ?_
      replace hl : outs.flatten.length ≤ n := by rw [List.length_cons] at hl; omega
      clear hp h
      induction hk with
      | nil => exact .nil
      | cons e _ ih2 =>
        rw [List.flatten_cons, List.length_append] at hl
        exact .cons (ih _ _ (by omega) e) (ih2 (by omega))
  exact fun {v out} h => main out.length v out (Nat.le_refl _) h

/-! ### rules whose reading names the context's own fragment, with the fragment told -/
section
variable {X : Cx} {K : PySem.W.Frag} {a o e : Expr} {es : List Expr} {ta to te : TE} {t : TA} {name : Str} {apos cpos p pos : Pos} {T id : String} {r : V → List V → Hp → VK → Prop} {tg : Expr}
theorem pt_truthF (hK : X.K = K) (ha : PE X a ta) (he : ∀ whole, isTrue a X.env whole = (do let v ← whole; standAt a.pos; holding [v] (truthy v))) : PT X a (fun σ H Q => ta σ H fun x H' => ∃ k, TruV K x H' k ∧ Q k H') := by
  subst hK; exact pt_truth ha he
theorem pe_bm0F (hK : X.K = K) (pa : PlainAttrs T) (slot : Slot T name id) (hty : typeOf (.builtin id) = pure (.type "method_descriptor")) (hm : MtR X id r) (ho : PE X o to)
    (hbase : attributeBase o name X.env (eval o X.env) = eval o X.env := by rfl) (hline : (apos.endLine == cpos.line) = true := by rfl) : PE X (.Call (.Attribute o name apos) [] [] cpos) (tBM0 K T r to) := by
  subst hK; exact pe_bm0 pa slot hty hm ho hbase hline
theorem pe_bmF (hK : X.K = K) (pa : PlainAttrs T) (slot : Slot T name id) (hty : typeOf (.builtin id) = pure (.type "method_descriptor")) (hm : MtR X id r) (ho : PE X o to) (ha : PA X (e :: es) t)
    (hbase : attributeBase o name X.env (eval o X.env) = eval o X.env := by rfl) (hfew : ((backTo cpos (starEach (e :: es) X.env)).all (fun x => !x.1) && (backToKw cpos (keywordEach [] X.env)).all (fun x => x.1.isSome) && decide ((e :: es).length + ([] : List Keyword).length + (if ([] : List Keyword).isEmpty then 0 else 1) < 30)) = true := by rfl) (hline : (apos.endLine == cpos.line) = true := by rfl) (hs : starEach (e :: es) X.env = (false, eval e X.env) :: starEach es X.env := by rfl) (hplain : (backTo cpos (starEach es X.env)).any (·.1) = false := by rfl) :
    PE X (.Call (.Attribute o name apos) (e :: es) [] cpos) (tBM K T r to t) := by
  subst hK; exact pe_bm pa slot hty hm ho ha hbase hfew hline hs hplain
theorem pi_revF (hK : X.K = K) (hg : Gl X "reversed") (hm : X.mg "reversed" = none) (he : PE X e te) (hs : starEach [e] X.env = (false, eval e X.env) :: starEach [] X.env := by rfl) : PI X tg (.Call (.Name "reversed" p) [e] [] pos) (RT.iRevA K te) := by
  subst hK; exact RT.pi_revA hg hm he hs
end

/-! ### whether conditions hold -/
end Own

namespace Own
open PySem PySem.Spec PyProof.Rows L2 SX GenW Prg Cnd
/-! ### programs as they lie; the states of a run -/
def LfH (H : Hp) : Lf → V → Prop
  | .skip, v => ∃ a, v = .ref a ∧ H a = some (.tup [.str (Str.ofString "skip")])
  | .fill _ x, v => ∃ a, v = .ref a ∧ H a = some (.tup [.str (Str.ofString "fill"), tx x])
  | .fail n, v => ∃ a, v = .ref a ∧ H a = some (.tup [.str (Str.ofString "fail"), tx n])
  | .call n, v => ∃ a, v = .ref a ∧ H a = some (.tup [.str (Str.ofString "call"), tx n])
/-- a sequence of programs as one program: it stands alone, or in a block -/
def Blk (H : Hp) (vs : List V) (v : V) : Prop := vs = [v] ∨ (2 ≤ vs.length ∧ ∃ a, v = .ref a ∧ H a = some (.tup (.str (Str.ofString "block") :: vs)))
def SqH (H : Hp) : Pr → List V → Prop
  | .nil, vs => vs = []
  | .leaf l r, vs => ∃ v ws, vs = v :: ws ∧ LfH H l v ∧ SqH H r ws
  | .whil c p r, vs => ∃ a x y ys ws, vs = .ref a :: ws ∧ H a = some (.tup [.str (Str.ofString "while"), x, y]) ∧ CdH H c x ∧ SqH H p ys ∧ Blk H ys y ∧ SqH H r ws
  | .cond c p q r, vs => ∃ a x y z ys zs ws, vs = .ref a :: ws ∧ H a = some (.tup [.str (Str.ofString "if"), x, y, z]) ∧ CdH H c x ∧ SqH H p ys ∧ Blk H ys y ∧ SqH H q zs ∧ Blk H zs z ∧ SqH H r ws
def PgH (H : Hp) (p : Pr) (v : V) : Prop := ∃ vs, SqH H p vs ∧ Blk H vs v
section
variable {H H' : Hp}
theorem LfH.keep (k : ∀ a xs, H a = some (.tup xs) → H' a = some (.tup xs)) : ∀ {l : Lf} {v : V}, LfH H l v → LfH H' l v
  | .skip, _, ⟨a, e, h⟩ | .fill _ _, _, ⟨a, e, h⟩ | .fail _, _, ⟨a, e, h⟩ | .call _, _, ⟨a, e, h⟩ => ⟨a, e, k _ _ h⟩
theorem Blk.keep (k : ∀ a xs, H a = some (.tup xs) → H' a = some (.tup xs)) {vs : List V} {v : V} (h : Blk H vs v) : Blk H' vs v :=
  h.elim .inl fun ⟨l, a, e, h⟩ => .inr ⟨l, a, e, k _ _ h⟩
theorem SqH.keep (k : ∀ a xs, H a = some (.tup xs) → H' a = some (.tup xs)) : ∀ {p : Pr} {vs : List V}, SqH H p vs → SqH H' p vs
  | .nil, _, h => h
  | .leaf l r, _, ⟨v, ws, e, h, i⟩ => ⟨v, ws, e, h.keep k, i.keep k⟩
  | .whil c p r, _, ⟨a, x, y, ys, ws, e, h, hc, hp, hb, hr⟩ => ⟨a, x, y, ys, ws, e, k _ _ h, hc.keep k, hp.keep k, hb.keep k, hr.keep k⟩
  | .cond c p q r, _, ⟨a, x, y, z, ys, zs, ws, e, h, hc, hp, hb, hq, hd, hr⟩ => ⟨a, x, y, z, ys, zs, ws, e, k _ _ h, hc.keep k, hp.keep k, hb.keep k, hq.keep k, hd.keep k, hr.keep k⟩
theorem PgH.keep (k : ∀ a xs, H a = some (.tup xs) → H' a = some (.tup xs)) {p : Pr} {v : V} (h : PgH H p v) : PgH H' p v := let ⟨vs, a, b⟩ := h; ⟨vs, a.keep k, b.keep k⟩
end
end Own

namespace Own
open PySem PySem.Spec PyProof.Rows L2 SX
/-! ### e[k].replace('y', 'z'): the number k makes the token that replace asks for -/
end Own

namespace Own
open PySem PySem.Spec PyProof.Rows L2 SX
/-! ### beginnings and ends; patterns c.* and .*c -/
end Own

namespace Own
open PySem PySem.Spec PyProof.Rows L2 SX
/-! ### a list against an empty one: its items are not looked at -/
end Own

/-! Prg2: how the text of a program is read: the brackets that are open, what was gathered before each of them -/
namespace Prg
open Cnd
def cat : Pr → Pr → Pr
  | .nil, q => q
  | .leaf l r, q => .leaf l (cat r q)
  | .whil c p r, q => .whil c p (cat r q)
  | .cond c p1 p2 r, q => .cond c p1 p2 (cat r q)
theorem cat_nil : ∀ p : Pr, cat p .nil = p
  | .nil => rfl
  | .leaf l r => by show Pr.leaf l (cat r .nil) = _; rw [cat_nil r]
  | .whil c p r => by show Pr.whil c p (cat r .nil) = _; rw [cat_nil r]
  | .cond c p q r => by show Pr.cond c p q (cat r .nil) = _; rw [cat_nil r]
theorem cat_assoc (b c : Pr) : ∀ a : Pr, cat (cat a b) c = cat a (cat b c)
  | .nil => rfl
  | .leaf l r => by show Pr.leaf l (cat (cat r b) c) = Pr.leaf l (cat r (cat b c)); rw [cat_assoc b c r]
  | .whil d p r => by show Pr.whil d p (cat (cat r b) c) = Pr.whil d p (cat r (cat b c)); rw [cat_assoc b c r]
  | .cond d p q r => by show Pr.cond d p q (cat (cat r b) c) = Pr.cond d p q (cat r (cat b c)); rw [cat_assoc b c r]
theorem some_cat {q : Pr} (h : some? q = true) : ∀ p : Pr, some? (cat p q) = true
  | .nil => h
  | .leaf l r => rfl
  | .whil c p r => rfl
  | .cond c p1 p2 r => rfl
theorem size_cat (q : Pr) : ∀ p : Pr, size (cat p q) = size p + size q
  | .nil => by show size q = 0 + _; omega
  | .leaf l r => by show size (cat r q) + 1 = size r + 1 + _; rw [size_cat q r]; omega
  | .whil c p r => by show size p + size (cat r q) + 1 = size p + size r + 1 + _; rw [size_cat q r]; omega
  | .cond c p1 p2 r => by show size p1 + size p2 + size (cat r q) + 1 = size p1 + size p2 + size r + 1 + _; rw [size_cat q r]; omega
/-- the whole program, when m is what the innermost bracket holds -/
def tot (m : Pr) : List (Op × Pr) → Pr
  | [] => m
  | (.whil c r2, d) :: fs => tot (cat d (.whil c m r2)) fs
  | (.fst c q r2, d) :: fs => tot (cat d (.cond c m q r2)) fs
  | (.snd c p r2, d) :: fs => tot (cat d (.cond c p m r2)) fs
abbrev ops (fs : List (Op × Pr)) : List Op := fs.map Prod.fst
/-- the text from the beginning of a sequence on -/
def bef (p : Pr) : List Op → List Nat
  | [] => pTx p
  | .whil _ r2 :: fs => pTx p ++ (93 :: rest r2 fs)
  | .fst _ q r2 :: fs => pTx p ++ (93 :: 32 :: 91 :: (pTx q ++ (93 :: rest r2 fs)))
  | .snd _ _ r2 :: fs => pTx p ++ (93 :: rest r2 fs)
theorem rest_some {r : Pr} (h : some? r = true) (fs : List Op) : rest r fs = 59 :: 32 :: bef r fs := by
  have e : semi r (pTx r) = 59 :: 32 :: pTx r := by unfold semi; rw [if_pos h]
  cases fs with
  | nil => show semi r (pTx r) = _; rw [e]; rfl
  | cons f fs => cases f <;> (show semi r (pTx r) ++ _ = _; rw [e]; rfl)
theorem bef_leaf (l : Lf) (r : Pr) (fs : List Op) : bef (.leaf l r) fs = lTx l ++ rest r fs := by
  have h := leaf_text (l := l) (r := r) fs
  cases fs with
  | nil => exact h
  | cons f fs => cases f <;> exact h
theorem bef_whil (c : Cd) (p r : Pr) (fs : List Op) : bef (.whil c p r) fs = whilT ++ (cTx c ++ (32 :: 91 :: bef p (.whil c r :: fs))) := by
  have aux : ∀ z, pTx (.whil c p r) ++ z = whilT ++ (cTx c ++ (32 :: 91 :: (pTx p ++ (93 :: (semi r (pTx r) ++ z))))) := fun z => by
    show (whilT ++ (cTx c ++ (32 :: 91 :: (pTx p ++ (93 :: semi r (pTx r)))))) ++ z = _
    simp only [List.append_assoc, List.cons_append]
  cases fs with
  | nil => rfl
  | cons f fs => cases f <;> exact aux _
theorem bef_cond (c : Cd) (p q r : Pr) (fs : List Op) : bef (.cond c p q r) fs = ifT ++ (cTx c ++ (32 :: 91 :: bef p (.fst c q r :: fs))) := by
  have aux : ∀ z, pTx (.cond c p q r) ++ z = ifT ++ (cTx c ++ (32 :: 91 :: (pTx p ++ (93 :: 32 :: 91 :: (pTx q ++ (93 :: (semi r (pTx r) ++ z))))))) := fun z => by
    show (ifT ++ (cTx c ++ (32 :: 91 :: (pTx p ++ (93 :: 32 :: 91 :: (pTx q ++ (93 :: semi r (pTx r)))))))) ++ z = _
    simp only [List.append_assoc, List.cons_append]
  cases fs with
  | nil => rfl
  | cons f fs => cases f <;> exact aux _
/-- what closing a bracket makes of the state -/
def clo1 (d : Pr) : Op → Pr → List (Op × Pr) → Bool × Pr × List (Op × Pr)
  | .whil c _, d2, fs => (true, cat d2 (.whil c d .nil), fs)
  | .snd c p _, d2, fs => (true, cat d2 (.cond c p d .nil), fs)
  | .fst c q r2, d2, fs => (false, .nil, (.snd c d r2, d2) :: fs)
theorem size_tot : ∀ (fs : List (Op × Pr)) (m : Pr), size m + fs.length ≤ size (tot m fs)
  | [], m => Nat.le_refl _
  | (.whil c r2, d) :: fs, m => by
    have h := size_tot fs (cat d (.whil c m r2))
    rw [size_cat] at h
    have e : size (.whil c m r2) = size m + size r2 + 1 := rfl
    show _ ≤ size (tot (cat d (.whil c m r2)) fs)
    rw [List.length_cons]; omega
  | (.fst c q r2, d) :: fs, m => by
    have h := size_tot fs (cat d (.cond c m q r2))
    rw [size_cat] at h
    have e : size (.cond c m q r2) = size m + size q + size r2 + 1 := rfl
    show _ ≤ size (tot (cat d (.cond c m q r2)) fs)
    rw [List.length_cons]; omega
  | (.snd c p r2, d) :: fs, m => by
    have h := size_tot fs (cat d (.cond c p m r2))
    rw [size_cat] at h
    have e : size (.cond c p m r2) = size p + size m + size r2 + 1 := rfl
    show _ ≤ size (tot (cat d (.cond c p m r2)) fs)
    rw [List.length_cons]; omega
theorem lTx_len (l : Lf) : 4 ≤ (lTx l).length := by
  cases l with
  | skip => show 4 ≤ 4; omega
  | fill a x => show 4 ≤ (fillT ++ a).length; rw [List.length_append]; show 4 ≤ 5 + _; omega
  | fail n => show 4 ≤ (failT ++ n).length; rw [List.length_append]; show 4 ≤ 5 + _; omega
  | call n => show 4 ≤ (callT ++ n).length; rw [List.length_append]; show 4 ≤ 5 + _; omega
theorem semi_len : ∀ r : Pr, (pTx r).length ≤ (semi r (pTx r)).length
  | .nil => Nat.zero_le _
  | .leaf _ _ | .whil _ _ _ | .cond _ _ _ _ => Nat.le_add_right _ 2
theorem size_text : ∀ p : Pr, size p ≤ (pTx p).length
  | .nil => Nat.zero_le _
  | .leaf l r => by
    have h1 := lTx_len l
    have h2 := size_text r
    show size r + 1 ≤ (lTx l ++ semi r (pTx r)).length
    rw [List.length_append]
    have h3 := semi_len r
    omega
  | .whil c p r => by
    have h1 := size_text p
    have h2 := size_text r
    show size p + size r + 1 ≤ (whilT ++ (cTx c ++ (32 :: 91 :: (pTx p ++ (93 :: semi r (pTx r)))))).length
    have h3 := semi_len r
    simp only [List.length_append, List.length_cons]; omega
  | .cond c p q r => by
    have h1 := size_text p
    have h2 := size_text r
    have h4 := size_text q
    show size p + size q + size r + 1 ≤ (ifT ++ (cTx c ++ (32 :: 91 :: (pTx p ++ (93 :: 32 :: 91 :: (pTx q ++ (93 :: semi r (pTx r)))))))).length
    have h3 := semi_len r
    simp only [List.length_append, List.length_cons]; omega
end Prg

namespace Own
open PySem PySem.Spec PyProof.Rows L2 SX GenW Prg Cnd
/-! ### programs that are being read: the stack of the brackets that are open -/
theorem sq_cat {H : Hp} {q : Pr} {ws : List V} (hq : SqH H q ws) : ∀ {p : Pr} {vs : List V}, SqH H p vs → SqH H (cat p q) (vs ++ ws)
  | .nil, _, h => by cases h; exact hq
  | .leaf l r, _, ⟨v, us, e, h, i⟩ => by subst e; exact ⟨v, us ++ ws, rfl, h, sq_cat hq i⟩
  | .whil c p r, _, ⟨a, x, y, ys, us, e, h, hc, hp, hb, hr⟩ => by subst e; exact ⟨a, x, y, ys, us ++ ws, rfl, h, hc, hp, hb, sq_cat hq hr⟩
  | .cond c p1 p2 r, _, ⟨a, x, y, z, ys, zs, us, e, h, hc, hp, hb, hp2, hb2, hr⟩ => by subst e; exact ⟨a, x, y, z, ys, zs, us ++ ws, rfl, h, hc, hp, hb, hp2, hb2, sq_cat hq hr⟩
theorem sq_many {H : Hp} : ∀ {p : Pr} {vs : List V}, SqH H p vs → vs.length ≤ size p
  | .nil, _, h => by cases h; exact Nat.le_refl _
  | .leaf l r, _, ⟨v, us, e, h, i⟩ => by subst e; have := sq_many i; show us.length + 1 ≤ size r + 1; omega
  | .whil c p r, _, ⟨a, x, y, ys, us, e, h, hc, hp, hb, hr⟩ => by subst e; have := sq_many hr; show us.length + 1 ≤ size p + size r + 1; omega
  | .cond c p1 p2 r, _, ⟨a, x, y, z, ys, zs, us, e, h, hc, hp, hb, hp2, hb2, hr⟩ => by subst e; have := sq_many hr; show us.length + 1 ≤ size p1 + size p2 + size r + 1; omega
theorem sq_full {H : Hp} : ∀ {p : Pr} {vs : List V}, SqH H p vs → some? p = true → 0 < vs.length
  | .nil, _, _, h => nomatch h
  | .leaf l r, _, ⟨v, us, e, h, i⟩, _ => by subst e; exact Nat.succ_pos _
  | .whil c p r, _, ⟨a, x, y, ys, us, e, h, hc, hp, hb, hr⟩, _ => by subst e; exact Nat.succ_pos _
  | .cond c p1 p2 r, _, ⟨a, x, y, z, ys, zs, us, e, h, hc, hp, hb, hp2, hb2, hr⟩, _ => by subst e; exact Nat.succ_pos _
/-- what is asked of the text of a program without brackets -/
def OkN (n : List Nat) : Prop := 0 < n.length ∧ n.length ≤ 8 ∧ ∀ c ∈ n, 97 ≤ c ∧ c ≤ 122
def OkTL (gs : List Nat) : Lf → Prop
  | .skip => True
  | .fill a x => ∃ i, x = rTx gs i ∧ Row gs i ∧ i.length ≤ 100 ∧ Rd gs i a ∧ a.length ≤ 1000 ∧ ∀ c ∈ a, c ≠ 59 ∧ c ≠ 93
  | .fail n => OkN n
  | .call n => OkN n
/-- what is asked of the text of a program -/
def OkT (gs : List Nat) : Pr → Prop
  | .nil => True
  | .leaf l r => OkTL gs l ∧ OkT gs r
  | .whil c p r => OkS gs c ∧ dpt c ≤ 60 ∧ some? p = true ∧ OkT gs p ∧ OkT gs r
  | .cond c p q r => OkS gs c ∧ dpt c ≤ 60 ∧ some? p = true ∧ some? q = true ∧ OkT gs p ∧ OkT gs q ∧ OkT gs r
structure BgC (K : PySem.W.Frag) (C : Addr) : Prop where
  cls : Cls K C
  nh : NoAttr K C "head"
  nc : NoAttr K C "closed"
  ng : NoAttr K C "gathered"
/-- the head of a bracket, and what was closed of it -/
def HeadH (H : Hp) : Option Op → V → List V → Prop
  | none, v, cs => ∃ t, v = .ref t ∧ H t = some (.tup []) ∧ cs = []
  | some (.whil c _), v, cs => ∃ t y, v = .ref t ∧ H t = some (.tup [.str (Str.ofString "while"), y]) ∧ CdH H c y ∧ cs = []
  | some (.fst c _ _), v, cs => ∃ t y, v = .ref t ∧ H t = some (.tup [.str (Str.ofString "if"), y]) ∧ CdH H c y ∧ cs = []
  | some (.snd c p _), v, cs => ∃ t y x, v = .ref t ∧ H t = some (.tup [.str (Str.ofString "if"), y]) ∧ CdH H c y ∧ cs = [x] ∧ PgH H p x
def FrmH (H : Hp) (C : Addr) (o : Option Op) (d : Pr) (a cl g : Addr) : Prop :=
  ∃ dx hv cs vs, H a = some (.ins C dx [("head", hv), ("closed", .ref cl), ("gathered", .ref g)]) ∧ HeadH H o hv cs ∧ H cl = some (.lst cs) ∧ H g = some (.lst vs) ∧ SqH H d vs
def StkH (H : Hp) (C : Addr) : List (Op × Pr) → Pr → List Addr → List Addr → Prop
  | [], d, as, os => ∃ a cl g, as = [a] ∧ os = [a, cl, g] ∧ FrmH H C none d a cl g
  | (o, d2) :: fs, d, as, os => ∃ a cl g as2 os2, as = a :: as2 ∧ os = a :: cl :: g :: os2 ∧ FrmH H C (some o) d a cl g ∧ StkH H C fs d2 as2 os2
section
variable {H H' : Hp} {C : Addr}
theorem HeadH.keep (k : ∀ a xs, H a = some (.tup xs) → H' a = some (.tup xs)) : ∀ {o : Option Op} {v : V} {cs : List V}, HeadH H o v cs → HeadH H' o v cs
  | none, _, _, ⟨t, e, h, z⟩ => ⟨t, e, k _ _ h, z⟩
  | some (.whil c _), _, _, ⟨t, y, e, h, hc, z⟩ => ⟨t, y, e, k _ _ h, hc.keep k, z⟩
  | some (.fst c _ _), _, _, ⟨t, y, e, h, hc, z⟩ => ⟨t, y, e, k _ _ h, hc.keep k, z⟩
  | some (.snd c p _), _, _, ⟨t, y, x, e, h, hc, z, hp⟩ => ⟨t, y, x, e, k _ _ h, hc.keep k, z, hp.keep k⟩
theorem FrmH.keep {o : Option Op} {d : Pr} {a cl g : Addr} (k : ∀ a xs, H a = some (.tup xs) → H' a = some (.tup xs)) (ka : H' a = H a) (kc : H' cl = H cl) (kg : H' g = H g) (h : FrmH H C o d a cl g) : FrmH H' C o d a cl g := by
  obtain ⟨dx, hv, cs, vs, h1, h2, h3, h4, h5⟩ := h
  exact ⟨dx, hv, cs, vs, ka.trans h1, h2.keep k, kc.trans h3, kg.trans h4, h5.keep k⟩
theorem StkH.keep (k : ∀ a xs, H a = some (.tup xs) → H' a = some (.tup xs)) : ∀ {fs : List (Op × Pr)} {d : Pr} {as os : List Addr}, (∀ b ∈ os, H' b = H b) → StkH H C fs d as os → StkH H' C fs d as os
  | [], d, as, os, hk, ⟨a, cl, g, e1, e2, h⟩ => by
    subst e1 e2
    exact ⟨a, cl, g, rfl, rfl, h.keep k (hk _ (by simp)) (hk _ (by simp)) (hk _ (by simp))⟩
  | (o, d2) :: fs, d, as, os, hk, ⟨a, cl, g, as2, os2, e1, e2, h, t⟩ => by
    subst e1 e2
    exact ⟨a, cl, g, as2, os2, rfl, rfl, h.keep k (hk _ (by simp)) (hk _ (by simp)) (hk _ (by simp)), t.keep k fun b hb => hk b (by simp [hb])⟩
theorem StkH.has : ∀ {fs : List (Op × Pr)} {d : Pr} {as os : List Addr}, StkH H C fs d as os → ∀ b ∈ os, H b ≠ none
  | [], d, as, os, ⟨a, cl, g, e1, e2, dx, hv, cs, vs, h1, h2, h3, h4, h5⟩, b, hb => by
    subst e1 e2
    simp only [List.mem_cons, List.not_mem_nil, or_false] at hb
    rcases hb with rfl | rfl | rfl
    · rw [h1]; exact fun z => nomatch z
    · rw [h3]; exact fun z => nomatch z
    · rw [h4]; exact fun z => nomatch z
  | (o, d2) :: fs, d, as, os, ⟨a, cl, g, as2, os2, e1, e2, ⟨dx, hv, cs, vs, h1, h2, h3, h4, h5⟩, t⟩, b, hb => by
    subst e1 e2
    simp only [List.mem_cons] at hb
    rcases hb with rfl | rfl | rfl | hb
    · rw [h1]; exact fun z => nomatch z
    · rw [h3]; exact fun z => nomatch z
    · rw [h4]; exact fun z => nomatch z
    · exact t.has b hb
theorem StkH.top : ∀ {fs : List (Op × Pr)} {d : Pr} {as os : List Addr}, StkH H C fs d as os → ∃ a cl g as2 os2 o, as = a :: as2 ∧ os = a :: cl :: g :: os2 ∧ FrmH H C o d a cl g ∧
    ∀ (H' : Hp) (d' : Pr) (g' : Addr), (∀ a xs, H a = some (.tup xs) → H' a = some (.tup xs)) → (∀ b ∈ os2, H' b = H b) → FrmH H' C o d' a cl g' → StkH H' C fs d' as (a :: cl :: g' :: os2)
  | [], d, as, os, ⟨a, cl, g, e1, e2, h⟩ => ⟨a, cl, g, [], [], _, e1, e2, h, fun H' d' g' _ _ h' => ⟨a, cl, g', e1, rfl, h'⟩⟩
  | (o, d2) :: fs, d, as, os, ⟨a, cl, g, as2, os2, e1, e2, h, t⟩ => ⟨a, cl, g, as2, os2, _, e1, e2, h, fun H' d' g' k hk h' => ⟨a, cl, g', as2, os2, e1, rfl, h', t.keep k hk⟩⟩
theorem StkH.len : ∀ {fs : List (Op × Pr)} {d : Pr} {as os : List Addr}, StkH H C fs d as os → as.length = fs.length + 1
  | [], d, as, os, ⟨a, cl, g, e1, e2, h⟩ => by subst e1; rfl
  | (o, d2) :: fs, d, as, os, ⟨a, cl, g, as2, os2, e1, e2, h, t⟩ => by subst e1; have := t.len; rw [List.length_cons, List.length_cons]; omega
end
/-- the stack as it lies, all of it new since H0 -/
def StkAt (H0 H : Hp) (C FL : Addr) (fs : List (Op × Pr)) (d : Pr) : Prop :=
  ∃ as os, H FL = some (.lst (as.reverse.map V.ref)) ∧ (FL :: os).Nodup ∧ StkH H C fs d as os ∧ (∀ b ∈ FL :: os, H0 b = none) ∧ Same H0 H
theorem StkAt.same {H0 H H' : Hp} {C FL : Addr} {fs : List (Op × Pr)} {d : Pr} (h : StkAt H0 H C FL fs d) (s : Same H H') : StkAt H0 H' C FL fs d := by
  obtain ⟨as, os, h1, h2, h3, h4, h5⟩ := h
  refine ⟨as, os, s _ _ h1, h2, h3.keep (fun a xs e => s _ _ e) fun b hb => ?_, h4, h5.trans s⟩
  cases e : H b with
  | none => exact absurd e (h3.has b hb)
  | some o => exact s _ _ e
theorem none_of' {H H' : Hp} (s : Same H H') {p : Addr} (h : H' p = none) : H p = none := by
  cases e : H p with
  | none => rfl
  | some o => rw [s _ _ e] at h; cases h
/-- the innermost bracket, and how something is put behind what it has gathered -/
theorem StkAt.top {H0 H : Hp} {C FL : Addr} {fs : List (Op × Pr)} {d : Pr} (h : StkAt H0 H C FL fs d) : ∃ (as2 : List Addr) (a cl g dx : Addr) (hv : V) (vs : List V),
    H FL = some (.lst (as2.map V.ref ++ [V.ref a])) ∧ as2.length = fs.length ∧ H a = some (.ins C dx [("head", hv), ("closed", .ref cl), ("gathered", .ref g)]) ∧ H g = some (.lst vs) ∧ SqH H d vs ∧ H0 g = none ∧
    ∀ (v : V) (nd : Pr), SqH H nd [v] → StkAt H0 (upd H g (.lst (vs ++ [v]))) C FL fs (cat d nd) := by
  obtain ⟨as, os, h1, h2, h3, h4, h5⟩ := h
  have hla := h3.len
  have hall := h3.has
  obtain ⟨a, cl, g, as2, os2, o, rfl, rfl, ⟨dx, hv, cs, vs, k1, k2, k3, k4, k5⟩, hs⟩ := h3.top
  have nd : FL ∉ (a :: cl :: g :: os2) ∧ a ∉ (cl :: g :: os2) ∧ cl ∉ (g :: os2) ∧ g ∉ os2 ∧ os2.Nodup := by
    simpa only [List.nodup_cons] using h2
  obtain ⟨n1, n2, n3, n4, n5⟩ := nd
  have tk : ∀ b xs, H b = some (.tup xs) → ∀ o, upd H g o b = some (.tup xs) := fun b xs e o => by
    rw [upd_ne (fun z => by rw [z, k4] at e; cases e)]; exact e
  refine ⟨as2.reverse, a, cl, g, dx, hv, vs, by rw [h1, List.reverse_cons, List.map_append]; rfl, by rw [List.length_reverse]; simpa using hla, k1, k4, k5, h4 g (by simp), fun v nd hn => ?_⟩
  refine ⟨a :: as2, a :: cl :: g :: os2, ?_, h2, ?_, h4, fun b o e => ?_⟩
  · rw [upd_ne (fun e => n1 (by rw [e]; simp))]; exact h1
  · refine hs _ _ g (fun b xs e => tk b xs e _) (fun b hb => upd_ne (fun e => n4 (by rw [← e]; exact hb))) ⟨dx, hv, cs, vs ++ [v], ?_, k2.keep fun b xs e => tk b xs e _, ?_, upd_same, sq_cat (hn.keep fun b xs e => tk b xs e _) (k5.keep fun b xs e => tk b xs e _)⟩
    · rw [upd_ne (fun e => n2 (by rw [e]; simp))]; exact k1
    · rw [upd_ne (fun e => n3 (by rw [e]; simp))]; exact k3
  · rw [upd_ne (fun z => by rw [z, h4 g (by simp)] at e; cases e)]; exact h5 _ _ e
/-- a bracket is opened -/
theorem StkAt.push {H0 H H4 : Hp} {C FL a cl g dx : Addr} {fs : List (Op × Pr)} {d : Pr} {o : Op} {hv : V} (h : StkAt H0 H C FL fs d) (s : Same H H4) (na : H a = none) (nc : H cl = none) (ng : H g = none) (n1 : a ≠ cl) (n2 : a ≠ g) (n3 : cl ≠ g)
    (ha : H4 a = some (.ins C dx [("head", hv), ("closed", .ref cl), ("gathered", .ref g)])) (hc : H4 cl = some (.lst [])) (hg : H4 g = some (.lst [])) (hh : HeadH H4 (some o) hv []) :
    ∃ xs, H4 FL = some (.lst xs) ∧ xs.length = fs.length + 1 ∧ StkAt H0 (upd H4 FL (.lst (xs ++ [V.ref a]))) C FL ((o, d) :: fs) .nil := by
  obtain ⟨as, os, h1, h2, h3, h4, h5⟩ := h.same s
  obtain ⟨as', os', g1, g2, g3, g4, g5⟩ := h
  have hF := s _ _ g1
  have z0 : ∀ b, H b = none → H0 b = none := fun b e => none_of' g5 e
  have old : ∀ b, H b ≠ none → b ≠ a ∧ b ≠ cl ∧ b ≠ g := fun b e => ⟨fun z => e (z ▸ na), fun z => e (z ▸ nc), fun z => e (z ▸ ng)⟩
  have hFn : H FL ≠ none := by rw [g1]; exact fun z => nomatch z
  have hos : ∀ b ∈ os', H b ≠ none := g3.has
  have g3' : StkH H4 C fs d as' os' := g3.keep (fun b xs e => s _ _ e) fun b hb => by
    cases e : H b with
    | none => exact absurd e (hos b hb)
    | some o => exact s _ _ e
  have tk : ∀ b xs, H4 b = some (.tup xs) → ∀ o, upd H4 FL o b = some (.tup xs) := fun b xs e o => by
    rw [upd_ne (fun z => by rw [z, hF] at e; cases e)]; exact e
  have nd := List.nodup_cons.mp g2
  refine ⟨_, hF, by rw [List.length_map, List.length_reverse]; exact g3.len, a :: as', a :: cl :: g :: os', by rw [upd_same, List.reverse_cons, List.map_append]; rfl, ?_, ⟨a, cl, g, as', os', rfl, rfl, ⟨dx, hv, [], [], ?_, hh.keep fun b xs e => tk b xs e _, ?_, ?_, rfl⟩, ?_⟩, ?_, ?_⟩
  · have oF := old FL hFn
    simp only [List.nodup_cons, List.mem_cons, not_or]
    exact ⟨⟨oF.1, oF.2.1, oF.2.2, nd.1⟩, ⟨n1, n2, fun h => (old a (hos a h)).1 rfl⟩, ⟨n3, fun h => (old cl (hos cl h)).2.1 rfl⟩, fun h => (old g (hos g h)).2.2 rfl, nd.2⟩
  · rw [upd_ne (old FL hFn).1.symm]; exact ha
  · rw [upd_ne (old FL hFn).2.1.symm]; exact hc
  · rw [upd_ne (old FL hFn).2.2.symm]; exact hg
  · exact g3'.keep (fun b xs e => tk b xs e _) fun b hb => upd_ne (fun z => nd.1 (z ▸ hb))
  · intro b hb
    simp only [List.mem_cons] at hb
    rcases hb with rfl | rfl | rfl | rfl | hb
    · exact g4 _ (by simp)
    · exact z0 _ na
    · exact z0 _ nc
    · exact z0 _ ng
    · exact g4 _ (by simp [hb])
  · intro b o e
    have : b ≠ FL := fun z => by rw [z, g4 FL (by simp)] at e; cases e
    rw [upd_ne this]
    exact s _ _ (g5 _ _ e)
/-- the stack of a text whose reading begins -/
theorem StkAt.first {H0 H : Hp} {C FL a cl g dx t : Addr} (s : Same H0 H) (nF : H0 FL = none) (na : H0 a = none) (nc : H0 cl = none) (ng : H0 g = none) (m1 : FL ≠ a) (m2 : FL ≠ cl) (m3 : FL ≠ g) (n1 : a ≠ cl) (n2 : a ≠ g) (n3 : cl ≠ g)
    (hF : H FL = some (.lst [.ref a])) (ha : H a = some (.ins C dx [("head", .ref t), ("closed", .ref cl), ("gathered", .ref g)])) (ht : H t = some (.tup [])) (hc : H cl = some (.lst [])) (hg : H g = some (.lst [])) : StkAt H0 H C FL [] .nil := by
  refine ⟨[a], [a, cl, g], hF, ?_, ⟨a, cl, g, rfl, rfl, dx, .ref t, [], [], ha, ⟨t, rfl, ht, rfl⟩, hc, hg, rfl⟩, ?_, s⟩
  · simp [m1, m2, m3, n1, n2, n3]
  · intro b hb
    simp only [List.mem_cons, List.not_mem_nil, or_false] at hb
    rcases hb with rfl | rfl | rfl | rfl <;> assumption
end Own

namespace Own
open PySem PySem.Spec PyProof.Rows L2 SX GenW
/-! ### a comprehension over a generator: [e for x in g(..) if t] -/
section
variable {X : Cx} {k : Nat} {nm : List Str} {pins : List (Addr × Obj)} {σ : L2.St} {H : Hp} {s : Shared}
/-- the generator has run: the consumer's things stand as they stood -/
theorem after_genC {g : Gp} {s1 : Shared} (I : Inv X pins σ H s) (K : KeptG g s.heap s1.heap) (hP : g.P = X.prog) (hw : g.w = X.w) (ho : g.outer = X.stack) (hG : Good2 g.sz H s.heap) (sub : ∀ b o, g.Hg b = some o → H b = some o ∧ ∃ xs, o = .tup xs)
    (own : ∀ b ∈ g.own s.heap, FpOk X pins H b) (os : s1.os = s.os) (bare : AllBare s1.gens) (l0 : X.s_0.heap.objs.size ≤ g.sz) (lC : ∀ x c, X.env.cells.lookup x = some c → c < g.sz) : Inv X pins σ H s1 := by
  obtain ⟨P, w, base, outer, Hg, sz, os0, a, go, nm⟩ := g
  cases hP
  cases hw
  have ho : outer = X.stack := ho
  subst ho
  have gn : ∀ b, H b = none → Hg b = none := fun b e => by
    cases q : Hg b with
    | none => rfl
    | some o => rw [(sub b o q).1] at e; cases e
  obtain ⟨ch, hch⟩ : ∃ ch : List Addr, ∀ b, b ∈ ch ↔ b < s.heap.objs.size ∧ (b ∈ (⟨X.prog, X.w, base, X.stack, Hg, sz, os0, a, go, nm⟩ : Gp).own s.heap ∨ (sz ≤ b ∧ ∃ o, s.heap.get? b = some o ∧ ¬ NoC o)) := by
    classical
    exact ⟨(List.range s.heap.objs.size).filter fun b => decide (b ∈ (⟨X.prog, X.w, base, X.stack, Hg, sz, os0, a, go, nm⟩ : Gp).own s.heap ∨ (sz ≤ b ∧ ∃ o, s.heap.get? b = some o ∧ ¬ NoC o)), fun b => by
      rw [List.mem_filter, List.mem_range, decide_eq_true_iff]⟩
  have nch : ∀ b o, s.heap.get? b = some o → b ∉ ch → b ∉ (⟨X.prog, X.w, base, X.stack, Hg, sz, os0, a, go, nm⟩ : Gp).own s.heap ∧ (b < sz ∨ NoC o) := fun b o e n => by
    refine ⟨fun z => n ((hch b).mpr ⟨Heap.lt_size e, .inl z⟩), ?_⟩
    by_cases hb : b < sz
    · exact .inl hb
    · refine .inr (Classical.byContradiction fun z => n ((hch b).mpr ⟨Heap.lt_size e, .inr ⟨Nat.le_of_not_lt hb, o, e, z⟩⟩))
  have any : ∀ b o, s.heap.get? b = some o → H b = none → b ∉ ch → b ∉ frs X.stack → s1.heap.get? b = some o := fun b o e n hc hf => K.keep b o e (gn b n) (nch b o e hc).1 (nch b o e hc).2 hf
  have trk : ∀ b o u, H b = some o → (∀ xs, o ≠ .tup xs) → s.heap.get? b = some u → s1.heap.get? b = some u := fun b o u e nt eu => by
    refine K.keep b u eu ?_ (fun z => ?_) (hG b o u e eu) fun z => ?_
    · cases q : Hg b with
      | none => exact q
      | some v =>
        obtain ⟨e2, xs, e3⟩ := sub b v q
        rw [e] at e2
        cases e2
        exact (nt xs e3).elim
    · rw [(own b z).1] at e; cases e
    · rw [I.stkFree b z] at e; cases e
  refine I.call' (ch := ch) os ⟨fun b o e n hf hc => any b o e n hc hf, fun b o e _ hb _ => K.slot b o e hb, fun b o _ n _ => n, fun b o e hc => ?_, fun _ _ e => e, fun _ _ _ e => e, fun b ps e => ⟨#[], by rw [e]; simp⟩⟩ (fun b o e => ?_) bare fun b hb => ?_
  · by_cases hf : b ∈ frs X.stack
    · obtain ⟨sl, q⟩ := K.slot b o e hf
      exact ⟨_, q⟩
    · cases q : H b with
      | none => exact ⟨o, any b o e q hc hf⟩
      | some v =>
        cases q2 : Hg b with
        | none => exact ⟨o, K.keep b o e q2 (nch b o e hc).1 (nch b o e hc).2 hf⟩
        | some z =>
          obtain ⟨e2, xs, e3⟩ := sub b z q2
          subst e3
          obtain ⟨_, its, _, ob, eo, _⟩ := K.tups b xs q2
          exact ⟨ob, eo⟩
  · cases q2 : Hg b with
    | some z =>
      obtain ⟨e2, xs, e3⟩ := sub b z q2
      subst e3
      rw [e] at e2
      cases e2
      exact K.tups b xs q2
    | none =>
      refine (I.hok b o e).stay (fun c u hc eu => ?_) (fun _ e => e) fun _ _ e => e
      rcases hc with rfl | hc
      · refine K.keep _ u eu q2 (fun z => ?_) (hG _ o u e eu) fun z => ?_
        · rw [(own _ z).1] at e; cases e
        · rw [I.stkFree _ z] at e; cases e
      · exact trk c _ u hc (fun xs z => nomatch z) eu
  · obtain ⟨h1, h2⟩ := (hch b).mp hb
    rcases h2 with h2 | ⟨h2, ob, h3, h4⟩
    · obtain ⟨_, f1, _, f3, f4, f5⟩ := own b h2
      exact ⟨f3, f1, f4, f5⟩
    · refine ⟨.inr (Nat.le_trans l0 h2), fun z => ?_, fun x c e z => ?_, fun p hp z => ?_⟩
      · obtain ⟨m, ⟨o2, es, ep, q1, q2, _⟩, _⟩ := I.loc
        rw [z, q1] at h3
        cases h3
        exact h4 fun v hv => by rw [q2] at hv; cases hv
      · rw [← z] at h2; exact absurd (lC x c e) (Nat.not_lt.mpr h2)
      · obtain ⟨q1, _, _, _, q5⟩ := I.pin p hp
        rw [z, h3] at q1
        cases q1
        exact h4 q5
/-- what is known throughout a loop over a generator -/
structure OverC (X : Cx) (gp : Gp) (H1 : Hp) : Prop where
  P : gp.P = X.prog
  w : gp.w = X.w
  base : gp.base = X.base
  outer : gp.outer = X.stack
  os : gp.os = X.s_0.os
  sub : ∀ b o, gp.Hg b = some o → H1 b = some o ∧ ∃ xs, o = .tup xs
  old : ∀ b o, H1 b = some o → b < gp.sz
  l0 : X.s_0.heap.objs.size ≤ gp.sz
  lC : ∀ x c, X.env.cells.lookup x = some c → c < gp.sz
  frz : ∀ b o u, X.H_0 b = some (.frz o u) → b < gp.sz
theorem OverC.tup {gp : Gp} {H1 H : Hp} (V : OverC X gp H1) (k : KeepT H1 H) : ∀ b o, gp.Hg b = some o → H b = some o ∧ ∃ xs, o = .tup xs := fun b o e => by
  obtain ⟨h, xs, rfl⟩ := V.sub b o e
  exact ⟨k b xs h, xs, rfl⟩
/-- an item has been handed out -/
theorem handedC {gp : Gp} {out : List V} {pins : List (Addr × Obj)} {g i : Nat} {σ : L2.St} {H H1 : Hp} {gs gs' : GenState} {s s₁ s4 : Shared} {v : Value} {kap : Resume → Shared → Prop} (V : OverC X gp H1) (hk : KeepT H1 H) (T : Turn2 X pins gp out g i σ H gs s)
    (hb : gs'.bare = true) (it : Item2 gp out (sizeLine - i - 1) (s.setGen g .running) v s₁ kap) (e4 : s4 = s₁.setGen g gs') (onw : Onw s.heap s4.heap) :
    Inv X pins σ H s4 ∧ (∀ b ∈ gp.own s4.heap, gp.sz ≤ b ∧ FpOk X pins H b ∧ ∃ o, s4.heap.get? b = some o ∧ NoC o) ∧ s4.heap.get? gp.a = some gp.go := by
  obtain ⟨y1, y2, y3, y4, y5, y6, y7, y8⟩ := it
  have I := T.inv
  have h4 : s4.heap = s₁.heap := by rw [e4]; rfl
  have b4 : AllBare s4.gens := by rw [e4]; exact allBare_setGen y2 hb
  have o4 : s4.os = s.os := by
    have : s4.os = s₁.os := by rw [e4]; rfl
    rw [this, y1, V.os, I.os]
  refine ⟨after_genC (g := gp) I (by rw [h4]; exact y5) V.P V.w V.outer T.good (V.tup hk) (fun b hb => (T.own b hb).2.1) o4 b4 V.l0 V.lC, fun b hb => ?_, by rw [h4]; exact y4⟩
  rw [h4] at hb onw ⊢
  obtain ⟨⟨o, eo, no⟩, hw⟩ := y7 b hb
  have hw : b ∈ gp.own s.heap ∨ s.heap.get? b = none ∨ (gp.sz ≤ b ∧ ∃ o, s.heap.get? b = some o ∧ ¬ NoC o) := hw
  rcases hw with hw | hw | ⟨hw, ob, h1, h2⟩
  · exact ⟨(T.own b hw).1, (T.own b hw).2.1, o, eo, no⟩
  · have hge : s.heap.objs.size ≤ b := by
      refine Nat.le_of_not_lt fun z => ?_
      rw [onw.2 b z hw] at eo; cases eo
    exact ⟨Nat.le_trans T.size hge, I.fpOk hge (I.hok.fresh hge), o, eo, no⟩
  · refine ⟨hw, ⟨?_, fun z => ?_, fun z => ?_, .inr (Nat.le_trans V.l0 hw), fun x c e z => ?_, fun p hp z => ?_⟩, o, eo, no⟩
    · cases q : H b with
      | none => rfl
      | some u =>
        rcases T.good b u ob q h1 with z | z
        · exact absurd z (Nat.not_lt.mpr hw)
        · exact (h2 z).elim
    · obtain ⟨m, ⟨o2, es, ep, q1, q2, _⟩, _⟩ := I.loc
      rw [z, q1] at h1
      cases h1
      exact h2 fun v hv => by rw [q2] at hv; cases hv
    · obtain ⟨_, ob2, ho, _⟩ := I.ok.funs.mem z
      exact absurd (Nat.lt_of_lt_of_le (Heap.lt_size ho) V.l0) (Nat.not_lt.mpr hw)
    · rw [← z] at hw; exact absurd (V.lC x c e) (Nat.not_lt.mpr hw)
    · obtain ⟨q1, _, _, _, q5⟩ := I.pin p hp
      rw [z, h1] at q1
      cases q1
      exact h2 q5
/-- the body has run; the generator's things were pinned -/
theorem restedC {gp : Gp} {out : List V} {pins : List (Addr × Obj)} {g i : Nat} {σ6 : L2.St} {H H6 H1 : Hp} {gs' : GenState} {s₁ s6 : Shared} {h4 : Heap} {v : Value} {s0 : Shared} (V : OverC X gp H1)
    (I6 : Inv X (pins ++ pinsAt (gp.own h4) h4) σ6 H6 s6) (hk : KeepT H1 (dropH gp.sz s6.heap H6)) (hh : h4 = s₁.heap) (own : ∀ b ∈ gp.own h4, gp.sz ≤ b ∧ FpOk X pins H b ∧ ∃ o, h4.get? b = some o ∧ NoC o) (goat : h4.get? gp.a = some gp.go)
    (it : Item2 gp out (sizeLine - i - 1) s0 v s₁ (fun r' s'' => match sizeLine - i with
          | 0 => False
          | m + 1 => gs'.Goes (model X.prog X.w) X.A.in1 (Over2 gp out) (Item2 gp out) m r' s'')) (clean : CleanG s6.gens) (hgs : s6.gens[g]? = some gs') (hi : i < out.length) :
    Sus gs' ∧ Turn2 X pins gp out g (i + 1) σ6 (dropH gp.sz s6.heap H6) gs' s6 := by
  obtain ⟨y1, y2, y3, y4, y5, y6, y7, y8⟩ := it
  subst hh
  have pin : ∀ b ∈ gp.own s₁.heap, s6.heap.get? b = s₁.heap.get? b ∧ H6 b = none := fun b hb => by
    obtain ⟨_, _, o, eo, _⟩ := own b hb
    have q := I6.pin (b, o) (List.mem_append_right _ (List.mem_append_right _ (mem_pinsAt hb eo)))
    exact ⟨by rw [q.1, eo], q.2.1⟩
  have Iu := I6.unpinned
  have Id := inv_drop (n := gp.sz) Iu V.frz
  have hL : gp.sz ∈ gp.own s₁.heap := List.mem_cons_of_mem _ (List.mem_cons_self ..)
  have eo : gp.own s6.heap = gp.own s₁.heap := ownF_same (pin _ hL).1
  have size : gp.sz ≤ s6.heap.objs.size := by
    obtain ⟨_, _, o, e, _⟩ := own _ hL
    have := (pin _ hL).1
    rw [e] at this
    exact Nat.le_of_lt (Heap.lt_size this)
  have nap : ∀ t : Shared, t.heap = s6.heap → t.os = s6.os → AllBare t.gens → Nap2 gp s₁ t := fun t e1 e2 e3 => by
    refine ⟨by rw [e2, y1, V.os, I6.os], e3, by rw [e1]; exact size, fun b hb => ⟨(own b hb).1, by rw [e1]; exact (pin b hb).1⟩, fun b o e => by rw [e1]; exact I6.bk b o (by rw [V.base] at e; exact e), fun b xs e => ?_, by rw [e1, V.base, V.outer]; exact I6.stack⟩
    rw [e1]
    have q := Id.hok b _ ((V.tup hk b _ e).1)
    have q : ObjOk X.prog X.w _ s6.heap b (.tup xs) := q
    rw [V.P, V.w]
    exact q
  have kap := y8 (s6.setGen g .running) (nap _ rfl rfl (allBare_setGen I6.bare rfl))
  cases hm : sizeLine - i with
  | zero => rw [hm] at kap; exact kap.1.elim
  | succ m =>
    rw [hm] at kap
    refine ⟨?_, Id, clean, good_drop Iu, fun b hb => ?_, ?_, size, hi, hgs, ?_⟩
    · cases gs' with
      | suspended => trivial
      | fresh c => exact nomatch kap.2.1
      | running => exact kap.1.elim
      | finished => exact kap.1.elim
    · rw [eo] at hb
      obtain ⟨h1, ⟨_, h2⟩, o, e, no⟩ := own b hb
      exact ⟨h1, ⟨drop_none (pin b hb).2, h2⟩, o, by rw [(pin b hb).1]; exact e, no⟩
    · rw [(pin _ (List.mem_cons_self ..)).1]; exact goat
    · have e : sizeLine - (i + 1) = m := by omega
      rw [e]
      exact kap.1

end
theorem cellsFrom_none : ∀ (names : List (Str × NameKind)) (n : Nat) (acc : List (Str × Addr)), (∀ y ∈ names, y.2 ≠ .cell) → cellsFrom n names acc = acc
  | [], _, _, _ => rfl
  | (x, k) :: r, n, acc, h => by
    have h1 := h (x, k) (List.mem_cons_self ..)
    have ih := cellsFrom_none r
    cases k with
    | cell => exact absurd rfl h1
    | _ => exact ih n acc fun y hy => h y (.tail _ hy)
theorem pushCells_none : ∀ (names : List (Str × NameKind)) (h : Heap), (∀ y ∈ names, y.2 ≠ .cell) → pushCells h names = h
  | [], _, _ => rfl
  | (x, k) :: r, n, h => by
    have h1 := h (x, k) (List.mem_cons_self ..)
    cases k with
    | cell => exact absurd rfl h1
    | _ => exact pushCells_none r n fun y hy => h y (.tail _ hy)
/-- the block of a comprehension whose generator was made first -/
theorem block_gen {X : Cx} {pins : List (Addr × Obj)} {σ : L2.St} {H1 H3 : Hp} {sc s4 : Shared} {scope : Scope} {own : List (Str × Nat)} {C : Addr} (I1 : Inv X pins σ H1 sc) (ok : BlkOk X.N X.env.scope scope own) (hN : X.N.Nodup) (nc : ∀ y ∈ scope.names, y.2 ≠ .cell)
    (kept : ∀ b o, sc.heap.get? b = some o → s4.heap.get? b = some o) (hos : s4.os = sc.os) (bare : AllBare s4.gens) (hC : s4.heap.Ns C fun _ => none) (lC : sc.heap.objs.size ≤ C) (hH : ∀ b, b < sc.heap.objs.size → H3 b = H1 b) (hC3 : H3 C = none) (hok : HOk X.prog X.w H3 s4.heap) :
    Inv (X.blk sc H1 scope (compEnvC scope (cloFrom X.env.cells scope.names []) C X.env) []) [] (wipe σ (own.map (·.2))) H3 s4 := by
  have B := block_start I1 ok hN (fp := []) (fun _ h => nomatch h)
  rw [cellsFrom_none _ _ _ nc, pushCells_none _ _ nc] at B
  have a := B.ok
  have old : ∀ b o, sc.heap.get? b = some o → b < sc.heap.objs.size := fun b o e => Heap.lt_size e
  have lcell : ∀ x c, (cloFrom X.env.cells scope.names []).lookup x = some c → (∃ v, sc.heap.IsCell c v) ∧ H1 c = none := fun x c e => by
    obtain ⟨v, o, h1, h2⟩ := B.cell x c e
    have hne := B.freeC x c e
    rcases cloFrom_mem (mem_of_lookup e) with z | ⟨z, z2⟩
    · cases z
    · obtain ⟨c', hc'⟩ := (ok.free (x, .free) z rfl).elim (fun k => I1.ok.has x (.inl k)) fun k => I1.ok.has x (.inr k)
      rw [hc'] at z2
      cases z2
      exact ⟨I1.cell x _ hc', hne⟩
  refine ⟨⟨a.mod, a.kind, a.glob, a.blt, lC, a.inj, a.has, fun x c hx hl => ?_, a.hd, a.frames, .inl rfl, fun b hb => (nomatch hb), a.bs, a.bsz, fun _ _ _ hb => (nomatch hb), fun b hb => (nomatch hb), a.funs, a.frf⟩,
    hos, bare, ⟨fun b o e _ _ _ => kept b o e, fun b o e _ _ _ => ⟨o.slots, kept b o e⟩, fun b o e n _ => by rw [hH b (old b o e)]; exact n, fun b o e _ => ⟨o, kept b o e⟩, fun b xs e => ?_, fun b o u e => ?_, fun b ps e => ⟨#[], ?_⟩⟩, ⟨_, hC, fun i x v hi hs hv => ?_⟩, fun x c e => ?_, hC3, fun x c e => ?_, fun p hp => (nomatch (show p ∈ ([] : List (Addr × Obj)) from hp)), hok, B.len⟩
  · have hx : (scope.names.lookup x == some NameKind.cell) = true := hx
    have hx := eq_of_beq hx
    exact absurd rfl (nc (x, .cell) (mem_of_lookup hx))
  · rw [hH b (I1.hok.lt e)]; exact e
  · rw [hH b (I1.hok.lt e)]; exact e
  · have e : H1 b = some (.tbl ps) := e
    rw [hH b (I1.hok.lt e), Array.append_empty]
    exact e
  · obtain ⟨m, h1, h2⟩ := B.loc
    obtain ⟨u, ru, lk⟩ := h2 i x v hi hs hv
    refine ⟨u, ru, ?_⟩
    rcases lk with ⟨_, q⟩ | ⟨q1, c, q2, o, q3, q4⟩
    · obtain ⟨o, es, ep, g1, g2, _, g3⟩ := h1
      have g0 : (sc.heap.push { cls := .type "dict", data := .dict #[] }).get? sc.heap.objs.size = some { cls := .type "dict", data := .dict #[] } := Heap.get?_push_size _ rfl
      have g1 : (sc.heap.push { cls := .type "dict", data := .dict #[] }).get? sc.heap.objs.size = some o := g1
      rw [g0] at g1
      cases g1
      have g2 : Data.dict #[] = Data.dict es ep := g2
      cases g2
      have := g3 x
      rw [q] at this
      cases this
    · refine .inr ⟨q1, c, q2, o, ?_, q4⟩
      obtain ⟨⟨v0, o0, z1, z2⟩, _⟩ := lcell x c q2
      have z3 : (sc.heap.push { cls := .type "dict", data := .dict #[] }).get? c = some o0 := Heap.get?_push_of_some _ z1
      have q3 : (sc.heap.push { cls := .type "dict", data := .dict #[] }).get? c = some o := q3
      rw [z3] at q3
      cases q3
      exact kept c o z1
  · obtain ⟨⟨v0, o0, z1, z2⟩, _⟩ := lcell x c e
    exact ⟨v0, o0, kept c o0 z1, z2⟩
  · obtain ⟨⟨v0, o0, z1, z2⟩, n⟩ := lcell x c e
    rw [hH c (old c o0 z1)]
    exact n
def tLcG2 (tg : TGen2) (g : TG) (tt : TT) (te : TE) (vs : List Nat) : TE := fun σ H Q => tg σ H fun out H1 => ∀ D, H1 D = none → ∃ Pv : Nat → Hp → Prop, Pv 0 (upd H1 D (.lst [])) ∧ (∀ i H, Pv i H → KeepT H1 H) ∧
  (∀ i x H, out[i]? = some x → Pv i H → g x (wipe σ vs) H fun σ2 H2 => wipe σ2 vs = wipe σ vs ∧ tt σ2 H2 fun b H3 =>
    if b = true then te σ2 H3 fun y H4 => ∃ acc, H4 D = some (.lst acc) ∧ acc.length < sizeLine ∧ ∀ Hd, Drp H1 (upd H4 D (.lst (acc ++ [y]))) Hd → Pv (i + 1) Hd else ∀ Hd, Drp H1 H3 Hd → Pv (i + 1) Hd) ∧
  ∀ H, Pv out.length H → Q (.ref D) H
section
variable {X : Cx} {k : Nat} {nm : List Str}
theorem pe_lcG2 {elt iter : Expr} {x : Str} {px pos : Pos} {ifs : List Expr} {scope : Scope} {own : List (Str × Nat)} {tg : TGen2} {gt : TG} {tt : TT} {te : TE} (hx : GF X) (hc : X.calm = true) (hN : X.N.Nodup) (hi : PGen2 X k nm iter tg) (hr : Room (k + 3) X.A)
    (ok : BlkOk X.N X.env.scope scope own) (nc : ∀ y ∈ scope.names, y.2 ≠ .cell)
    (hg : ∀ (s : Shared) (H : Hp) (C : Addr) (cl : List (Str × Addr)) (fp : List Addr), PG (X.blk s H scope (compEnvC scope cl C X.env) fp) (.Name x px) gt)
    (ht : ∀ (s : Shared) (H : Hp) (C : Addr) (cl : List (Str × Addr)) (fp : List Addr), PTs (X.blk s H scope (compEnvC scope cl C X.env) fp) ifs tt)
    (he : ∀ (s : Shared) (H : Hp) (C : Addr) (cl : List (Str × Addr)) (fp : List Addr), PE (X.blk s H scope (compEnvC scope cl C X.env) fp) elt te)
    (hs : ∀ x, foldedSetIterable iter X.env x = pure x := by intro _; rfl) : PE X (.ListComp elt [⟨.Name x px, iter, ifs, 0⟩] scope pos) (tLcG2 tg gt tt te (own.map (·.2))) := by
  refine ⟨fun pins s σ H Q I h => ?_⟩
  have bs := bare_sleepers I.bare
  have main : ∀ s : Shared, CleanG s.gens → Inv X pins σ H s → wpAny (model X.prog X.w) X.A (eval (.ListComp elt [⟨.Name x px, iter, ifs, 0⟩] scope pos) X.env) (EP X pins σ Q) X.xe s := by
    intro s c I
    rw [eval_ListComp]
    have has : ∀ y ∈ scope.names, y.2 = .free → ∃ c, X.env.cells.lookup y.1 = some c := fun y hy e => (ok.free y hy e).elim (fun k => I.ok.has _ (.inl k)) fun k => I.ok.has _ (.inr k)
    refine wpAny_comprehension_free (use := none) rfl hs (closure_ok has) ok.kind (fun y hy e => (ok.uniq y hy).trans (congrArg some e)) (wpAny_mono (wpAny_clean c (hi.run pins s σ H _ I h)) (fun u s1 ⟨c1, H1, Hg, sc, out, a, g, cd, go, e, I1, sub, F, asks⟩ => ?_) fun e s' q => q.2)
    subst e
    refine wpAny_pyIter_gen (F.gen _ F.goat) ?_
    refine wpAny_newObj_type (newEnv_comp ?_) (by show 0 ≤ sizeLine; decide)
    obtain ⟨D, eD⟩ : ∃ D, D = s1.heap.objs.size := ⟨_, rfl⟩
    rw [← eD]
    have loD : sc.heap.objs.size ≤ D := by rw [eD]; exact Nat.le_of_lt F.onw
    have newD : H1 D = none := I1.hok.fresh loD
    obtain ⟨Pv, p0, hkeep, hstep, hend⟩ := asks D newD
    have J1 : Inv X pins σ H1 s1 := I1.call' (ch := []) F.os (Un.kept F.keep) (I1.hok.kept F.keep) F.bare fun _ z => nomatch z
    obtain ⟨h3, e3⟩ : ∃ h3 : Heap, h3 = s1.heap.push { cls := .type "list", data := .seq ([] : List Value).toArray } := ⟨_, rfl⟩
    rw [← e3]
    have k3 : ∀ b o, s1.heap.get? b = some o → h3.get? b = some o := fun b o z => by rw [e3]; exact Heap.get?_push_of_some _ z
    have z3 : h3.objs.size = D + 1 := by rw [e3, Heap.size_push, eD]
    have D3 : h3.get? D = some { cls := .type "list", data := .seq ([] : List Value).toArray } := by rw [e3, eD]; exact Heap.get?_push_size _ rfl
    have J3 := J1.laid (t' := s1.toks) (a := D) (o := .lst []) k3 (Nat.le_of_eq eD.symm) ⟨Nat.zero_le _, [], 0, .nil, D3⟩
    obtain ⟨C, eC⟩ : ∃ C, C = h3.objs.size := ⟨_, rfl⟩
    show codeAny _ _ (.compStart (.ListComp elt [⟨.Name x px, iter, ifs, 0⟩] scope pos) 0 (.ref a) (.ref D) (compEnvC scope (cellsFrom (h3.objs.size + 1) scope.names (cloFrom X.env.cells scope.names [])) h3.objs.size X.env)) _ { s1 with heap := pushCells (h3.push { cls := .type "dict", data := .dict #[] }) scope.names }
    rw [cellsFrom_none _ _ _ nc, pushCells_none _ _ nc, ← eC]
    have hCn : (h3.push { cls := .type "dict", data := .dict #[] }).Ns C fun _ => none := by rw [eC]; exact Heap.Ns.new ..
    have k4 : ∀ b o, h3.get? b = some o → (h3.push { cls := .type "dict", data := .dict #[] }).get? b = some o := fun b o z => Heap.get?_push_of_some _ z
    have z4 : (h3.push { cls := .type "dict", data := .dict #[] }).objs.size = D + 1 + 1 := by rw [Heap.size_push, z3]
    obtain ⟨h4, e4⟩ : ∃ h4 : Heap, h4 = h3.push { cls := .type "dict", data := .dict #[] } := ⟨_, rfl⟩
    rw [← e4] at hCn k4 z4 ⊢
    have CD : C = D + 1 := by rw [eC, z3]
    have lC : sc.heap.objs.size ≤ C := by rw [CD]; exact Nat.le_succ_of_le loD
    obtain ⟨s4, es4⟩ : ∃ s4 : Shared, s4 = { s1 with heap := h4 } := ⟨_, rfl⟩
    rw [← es4]
    have h4s : s4.heap = h4 := by rw [es4]
    have g4s : s4.gens = s1.gens := by rw [es4]
    have kp4 : ∀ b o, s1.heap.get? b = some o → s4.heap.get? b = some o := fun b o z => by rw [h4s]; exact k4 _ _ (k3 _ _ z)
    have hD3 : ∀ b, b < sc.heap.objs.size → upd H1 D (.lst []) b = H1 b := fun b hb => upd_ne (Nat.ne_of_lt (Nat.lt_of_lt_of_le hb loD))
    have hC3 : upd H1 D (.lst []) C = none := by rw [upd_ne (by rw [CD]; exact Nat.succ_ne_self _)]; exact I1.hok.fresh lC
    have J : Inv (X.blk sc H1 scope (compEnvC scope (cloFrom X.env.cells scope.names []) C X.env) []) [] (wipe σ (own.map (·.2))) (upd H1 D (.lst [])) s4 :=
      block_gen I1 ok hN nc (fun b o z => kp4 _ _ (F.keep b o z)) (by rw [es4]; exact F.os) (by rw [g4s]; exact F.bare) (by rw [h4s]; exact hCn) lC hD3 hC3 (by rw [h4s]; exact J3.hok.kept k4)
    obtain ⟨cl, ecl⟩ : ∃ cl, cl = cloFrom X.env.cells scope.names [] := ⟨_, rfl⟩
    rw [← ecl] at J ⊢
    -- from the block back to the def
    have back : ∀ (p : List (Addr × Obj)) (τ : L2.St) (G : Hp) (z : Shared), Inv (X.blk sc H1 scope (compEnvC scope cl C X.env) []) p τ G z → Inv X pins σ G z := fun p τ G z J' =>
      I1.call' (ch := []) J'.os J'.base J'.hok J'.bare fun b hb => nomatch hb
    obtain ⟨gp, hgp⟩ : ∃ gp : Gp, gp = ⟨X.prog, X.w, X.base, X.stack, Hg, sc.heap.objs.size, sc.os, a, go, nm⟩ := ⟨_, rfl⟩
    have ega : gp.a = a := by rw [hgp]
    have ego : gp.go = go := by rw [hgp]
    have esz : gp.sz = sc.heap.objs.size := by rw [hgp]
    have lcl : ∀ x c, cl.lookup x = some c → c < sc.heap.objs.size := fun x c e => by
      rw [ecl] at e
      rcases cloFrom_mem (mem_of_lookup e) with z | ⟨z, z2⟩
      · cases z
      · obtain ⟨c', hc'⟩ := has _ z rfl
        rw [hc'] at z2
        cases z2
        obtain ⟨v, q⟩ := I1.cell x _ hc'
        exact q.lt
    have V : OverC (X.blk sc H1 scope (compEnvC scope cl C X.env) []) gp H1 := by
      subst hgp
      exact ⟨rfl, rfl, rfl, rfl, rfl, fun b o e => ⟨sub b o e, F.tups b o e⟩, fun b o e => I1.hok.lt e, Nat.le_refl _, lcl, fun b o u e => I1.hok.lt e⟩
    have gen : ∀ h : Heap, h.get? gp.a = some gp.go → h.IsGen gp.a g := by rw [ega, ego]; exact F.gen
    have own1 : gp.own s1.heap = [a, sc.heap.objs.size] := by rw [hgp]; exact F.own
    obtain ⟨of, eof, nof⟩ := F.frame
    have own4 : gp.own s4.heap = [a, sc.heap.objs.size] := by
      rw [← own1]
      refine ownF_same ?_
      rw [esz, kp4 _ _ eof, eof]
    have young : ∀ b o, s1.heap.get? b = some o → sc.heap.objs.size ≤ b → FpOk (X.blk sc H1 scope (compEnvC scope cl C X.env) []) [] (upd H1 D (.lst [])) b := fun b o eo hb => by
      have hlt : b < D := by rw [eD]; exact Heap.lt_size eo
      refine ⟨by rw [upd_ne (Nat.ne_of_lt hlt)]; exact I1.hok.fresh hb, fun z => ?_, fun z => ?_, .inr hb, fun x c e z => ?_, fun p hp => (nomatch (show p ∈ ([] : List (Addr × Obj)) from hp))⟩
      · have z : b = C := z
        rw [z, CD] at hlt
        exact absurd hlt (Nat.not_lt.mpr (Nat.le_succ _))
      · obtain ⟨_, ob2, ho, _⟩ := J.ok.funs.mem z
        exact absurd (Heap.lt_size ho) (Nat.not_lt.mpr hb)
      · have h9 := lcl x c e
        rw [z] at h9
        exact absurd h9 (Nat.not_lt.mpr hb)
    have T0 : Turn2 (X.blk sc H1 scope (compEnvC scope cl C X.env) []) [] gp out g 0 (wipe σ (own.map (·.2))) (upd H1 D (.lst [])) (.fresh cd) s4 := by
      refine ⟨J, by rw [g4s]; exact c1, fun b o u e eu => ?_, fun b hb => ?_, by rw [ega, ego]; exact kp4 _ _ F.goat, ?_, Nat.zero_le _, by rw [g4s]; exact F.at_, rfl, ?_⟩
      · by_cases z : b = D
        · refine .inr fun v hv => ?_
          rw [z, h4s, k4 _ _ D3] at eu
          cases eu
          cases hv
        · rw [upd_ne z] at e
          exact .inl (by rw [esz]; exact I1.hok.lt e)
      · rw [own4] at hb
        rcases List.mem_cons.mp hb with rfl | hb
        · exact ⟨by rw [esz]; exact F.lo, young _ _ F.goat F.lo, go, kp4 _ _ F.goat, F.noc⟩
        · rw [List.mem_singleton.mp hb]
          exact ⟨by rw [esz]; exact Nat.le_refl _, young _ _ eof (Nat.le_refl _), of, kp4 _ _ eof, nof⟩
      · rw [esz, h4s, z4]
        omega
      · have q := F.wake X.A.in1 (s4.setGen g .running) ⟨hr.hd, ?_, ?_⟩ I.ok.frames ?_
        · rw [hgp]; exact q
        · show X.A.depth + 3 * k + 5 < _
          have := hr.dp
          omega
        · show X.A.units + 1 + 16 * k + 200 < _
          have := hr.un
          omega
        · refine ⟨by rw [es4]; rfl, allBare_setGen (by rw [g4s]; exact F.bare) rfl, ?_, fun b hb => ⟨?_, ?_⟩, J.bk, fun b xs e => ?_, J.stack⟩
          · show sc.heap.objs.size ≤ s4.heap.objs.size
            rw [h4s, z4]
            omega
          · rw [F.own] at hb
            rcases List.mem_cons.mp hb with rfl | hb
            · exact F.lo
            · rw [List.mem_singleton.mp hb]; exact Nat.le_refl _
          · show s4.heap.get? b = s1.heap.get? b
            rw [F.own] at hb
            rcases List.mem_cons.mp hb with rfl | hb
            · rw [kp4 _ _ F.goat, F.goat]
            · rw [List.mem_singleton.mp hb, kp4 _ _ eof, eof]
          · have q := J1.hok b _ (sub b _ e)
            have q2 : ObjOk X.prog X.w H1 s4.heap b (.tup xs) := (J1.hok.kept kp4) b _ (sub b _ e)
            exact q2
    have looped : codeAny (model X.prog X.w) X.A (.compLoop (.ListComp elt [⟨.Name x px, iter, ifs, 0⟩] scope pos) 0 (.ref a) (.ref D) (compEnvC scope cl C X.env)) (compPost (model X.prog X.w) X.A X.xe none (fun v z => EP X pins σ Q v z) (.ref D) C) s4 := by
      refine compLoop_any (fun n s' => ∃ i H gs, n = out.length - i ∧ Turn2 (X.blk sc H1 scope (compEnvC scope cl C X.env) []) [] gp out g i (wipe σ (own.map (·.2))) H gs s' ∧ Pv i H) ?_ out.length ⟨0, _, _, rfl, T0, p0⟩
      rintro n s5 ⟨i, H5, gs, rfl, T, pv⟩
      rw [← ega]
      have hk := hkeep i H5 pv
      refine wpAny_mono (asked (X := X.blk sc H1 scope (compEnvC scope cl C X.env) []) hc hr T gen) (fun r s6 ⟨c6, onw, hsz, h6⟩ => ?_) fun _ _ z => z.elim
      cases r with
      | none =>
        obtain ⟨s₁, h', ⟨hn, os1, b1, K⟩, kept, e6⟩ := h6
        have ei : i = out.length := by have := T.le; omega
        subst ei
        have J2 : Inv (X.blk sc H1 scope (compEnvC scope cl C X.env) []) [] (wipe σ (own.map (·.2))) H5 s₁ := after_genC (g := gp) T.inv K V.P V.w V.outer T.good (V.tup hk) (fun b hb => (T.own b hb).2.1) (by rw [os1, V.os, T.inv.os]) b1 V.l0 V.lC
        have J6 : Inv (X.blk sc H1 scope (compEnvC scope cl C X.env) []) [] (wipe σ (own.map (·.2))) H5 s6 := by
          rw [e6]
          exact J2.call' (ch := []) rfl (Un.kept kept) (J2.hok.kept kept) (allBare_setGen b1 rfl) fun _ z => nomatch z
        have I6 := back _ _ _ _ J6
        obtain ⟨m, ns, _⟩ := J6.loc
        have off : H5 C = none := J6.free
        have fpC : FpOk X pins H5 C := I1.fpOk lC off
        obtain ⟨a0, a1, a2, a3, a4, a5⟩ := fpC
        exact ⟨m, ns, fun h'' same => ⟨.ref D, H5, I6.turned (t' := s6.toks) (fun b o nb z => (same.2 b nb).trans z) a0 a1 a3 a4 a5, rfl, hend H5 pv⟩⟩
      | some v =>
        obtain ⟨s₁, gs', hbare, it, e6⟩ := h6
        obtain ⟨I6, own6, goat6⟩ := handedC V hk T hbare it e6 onw
        obtain ⟨⟨j, xx, hn, hx', rx⟩, _⟩ := it.2.2.2.2.2
        have hj : j = i ∧ i < sizeLine := by
          have h1 := (Array.getElem?_eq_some_iff.mp T.goes.1).1
          by_cases hz : sizeLine - i = 0
          · exfalso
            have y8 := it.2.2.2.2.2.2.2
            rw [hz] at y8
            refine (y8 s6 ⟨by rw [e6]; rfl, I6.bare, ?_, fun b hb => ⟨?_, by rw [e6]; rfl⟩, fun b o e => I6.bk b o (by rw [V.base] at e; exact e), fun b xs e => ?_, by rw [V.base, V.outer]; exact I6.stack⟩).1
            · exact Nat.le_trans T.size onw.1
            · have h4 : s6.heap = s₁.heap := by rw [e6]; rfl
              exact (own6 b (by rw [h4]; exact hb)).1
            · have q := I6.hok b _ ((V.tup hk b _ e).1)
              have q : ObjOk X.prog X.w _ s6.heap b (.tup xs) := q
              rw [V.P, V.w]
              exact q
          · omega
        have ej := hj.1
        subst ej
        have hlt : j < out.length := (List.getElem?_eq_some_iff.mp hx').1
        have I6p : Inv (X.blk sc H1 scope (compEnvC scope cl C X.env) []) ([] ++ pinsAt (gp.own s6.heap) s6.heap) (wipe σ (own.map (·.2))) H5 s6 := I6.pinned (fun b hb => (own6 b hb).2.1) fun b hb => (own6 b hb).2.2
        have hgs6 : s6.gens[g]? = some gs' := by
          rw [e6]
          have : s₁.gens.size = s6.gens.size := by rw [e6]; exact (setGen_size _ _ _).symm
          exact setGen_at (by omega)
        have hh6 : s6.heap = s₁.heap := by rw [e6]; rfl
        have cl' : ∀ k l d p fs cl, gs' = .suspended k l d p fs cl → splitAtGen fs = none := fun k l d p fs cl e => c6 g k l d p fs cl (by rw [hgs6, e])
        have sus : Sus gs' := (restedC (H6 := H5) (s6 := s6) (σ6 := wipe σ (own.map (·.2))) V (by exact I6p) (fun b xs e => drop_get (hk b xs e) (.inr (.inl trivial))) hh6 own6 goat6 it c6 hgs6 hlt).1
        have hbO : ∀ i y, oneG g gs' i = some y → y.bare = true := fun i y e => by
          unfold oneG at e
          split at e
          · cases e; exact hbare
          · cases e
        have S6 : Sim (oneG g gs') { s6 with gens := s6.gens.setIfInBounds g (pz gs') } s6 := ⟨clean_one c6, rel_one hgs6 sus, rfl⟩
        have I6s : Inv (X.blk sc H1 scope (compEnvC scope cl C X.env) []) ([] ++ pinsAt (gp.own s6.heap) s6.heap) (wipe σ (own.map (·.2))) H5 { s6 with gens := s6.gens.setIfInBounds g (pz gs') } := inv_gens I6p rfl rfl (allBare_setGen (s := s6) I6p.bare (bare_pz hbare))
        have again : ∀ {τ : L2.St} {G : Hp} {z z' : Shared}, Sim (oneG g gs') z' z → Inv (X.blk sc H1 scope (compEnvC scope cl C X.env) []) ([] ++ pinsAt (gp.own s6.heap) s6.heap) τ G z' → wipe τ (own.map (·.2)) = wipe σ (own.map (·.2)) → (∀ Hd, Drp H1 G Hd → Pv (j + 1) Hd) →
            ∃ m, m < out.length - j ∧ ∃ i H gs, m = out.length - i ∧ Turn2 (X.blk sc H1 scope (compEnvC scope cl C X.env) []) [] gp out g i (wipe σ (own.map (·.2))) H gs z ∧ Pv i H := fun {τ G z z'} S I' same nx => by
          have Iz := inv_sim S hbO I'
          have Iw : Inv (X.blk sc H1 scope (compEnvC scope cl C X.env) []) ([] ++ pinsAt (gp.own s6.heap) s6.heap) (wipe σ (own.map (·.2))) G z := Iz.weak (by rw [← same, wipe_length]) fun i v e => by
            rw [← same] at e
            exact (wipe_some e).1
          have pn := nx _ (drp_drop (s := z) V.old)
          obtain ⟨_, T6⟩ := restedC V Iw (hkeep _ _ pn) hh6 own6 goat6 it (clean_back S cl') (((S.2.1.2 g).1 gs' (by unfold oneG; rw [if_pos rfl])).2.2) hlt
          exact ⟨out.length - (j + 1), by omega, j + 1, _, gs', rfl, T6, pn⟩
        show wpAny _ _ (letOwnedTupleGo (.Name x px) (.ref gp.a) v) _ _ _
        refine wpAny_pure ?_
        refine wpAny_mono (wpAny_sim S6 ((hg sc H1 C cl []).run _ _ _ H5 xx v _ I6s rx (hstep j xx H5 hx' pv))) (fun _ s7 ⟨s7', S7, σ7, H7, I7, same7, q7⟩ => ?_) fun e s7 ⟨s7', S7, q⟩ => q.elim
        refine wpAny_mono (wpAny_sim S7 ((ht sc H1 C cl []).run _ s7' σ7 H7 _ I7 q7)) (fun b s8 ⟨s8', S8, q8⟩ => ?_) fun e s8 ⟨s8', S8, q⟩ => q.elim
        obtain ⟨H8, I8, q8⟩ := q8
        cases b with
        | false =>
          have q8 : ∀ Hd, Drp H1 H8 Hd → Pv (j + 1) Hd := q8
          exact again S8 I8 same7 q8
        | true =>
          have q8 : te σ7 H8 fun y H4 => ∃ acc, H4 D = some (.lst acc) ∧ acc.length < sizeLine ∧ ∀ Hd, Drp H1 (upd H4 D (.lst (acc ++ [y]))) Hd → Pv (j + 1) Hd := q8
          show wpAny _ _ _ _ _ _
          refine wpAny_mono (wpAny_sim S8 ((he sc H1 C cl []).run _ s8' σ7 H8 _ I8 q8)) (fun v9 s9 ⟨s9', S9, q9⟩ => ?_) fun e s9 ⟨s9', S9, q⟩ => q.elim
          obtain ⟨yv, H9, J9, r9, acc, hD9, hz9, nx⟩ := q9
          refine wpAny_mono (wpAny_sim S9 (app_ok (X := X.blk sc H1 scope (compEnvC scope cl C X.env) []) (E := fun _ _ => False) (Q := fun _ z => Inv (X.blk sc H1 scope (compEnvC scope cl C X.env) []) ([] ++ pinsAt (gp.own s6.heap) s6.heap) σ7 (upd H9 D (.lst (acc ++ [yv]))) z) J9 hD9 hz9 r9 fun s' J' => J')) (fun _ s10 ⟨s10', S10, J10⟩ => ?_) fun e s10 ⟨s10', S10, q⟩ => q.elim
          exact again S10 J10 same7 nx
    exact codeAny_compStart_list looped (wpAny_pyIter_gen (F.gen _ (kp4 _ _ F.goat)) looped)
  refine wpAny_mono (wpAny_asleep (main _ (clean_sleepers _) (inv_gens I rfl rfl (bare_map I.bare)))) (fun f t ⟨s', S, y, G, J, r, q⟩ => ⟨y, G, inv_sim S bs J, r, q⟩) fun e t ⟨s', S, q⟩ => hx _ _ _ e S bs q
end
end Own

namespace Own
open PySem PySem.Spec PyProof.Rows L2 SX
/-! ### d.get(y, x) where d is a dict of the module's top -/
def KNo (K : PySem.W.Frag) (C : Addr) (x : Str) : Prop := PySem.W.nsIn K C x = some none
theorem isStrOf_eq (x : Str) (v : Value) : PySem.Value.isStrOf x v = v.isStr x := by cases v <;> rfl
theorem find_of_ns {K : PySem.W.Frag} {C : Addr} {es : Array DictEntry} {n : Nat} {x : Str} {r : Option Value} (h : PySem.W.nsIn K C x = some r) (lk : List.lookup C K = some { cls := .type "dict", data := .dict es n }) : PySem.findBy PySem.Value.isStrOf es x = r := by
  unfold PySem.W.nsIn at h
  rw [lk] at h
  have e : PySem.findBy PySem.Value.isStrOf es x = (es.toList.find? fun e => e.key.isStr x).map (·.val) := by
    unfold PySem.findBy
    rw [← Array.find?_toList, show (fun e : DictEntry => PySem.Value.isStrOf x e.key) = fun e => e.key.isStr x from funext fun e => isStrOf_eq x e.key]
  rw [e]
  revert h
  show (match List.find? (fun e : DictEntry => e.key.isStr x) es.toList with | some e => some (some e.val) | none => if (es.toList.any fun x => x.refKey) = true then none else some none) = some r → _
  cases List.find? (fun e : DictEntry => e.key.isStr x) es.toList with
  | some e => intro h; exact Option.some.inj h
  | none =>
    intro h
    by_cases z : (es.toList.any fun x => x.refKey) = true
    · simp only [z, if_true] at h; cases h
    · simp only [z] at h; exact Option.some.inj h
def tKGet2 (K : PySem.W.Frag) (w : World) (C : Addr) (ty tx : TE) : TE := fun σ H Q => ty σ H fun y H2 => tx σ H2 fun z H3 => ∃ s, y = .str s ∧ ((∃ v, KDct K w C s v ∧ Q v H3) ∨ (KNo K C s ∧ Q z H3))
theorem pe_kget2 {X : Cx} {C : Addr} {o e f : Expr} {apos cpos : Pos} {ty tx : TE} (D : ∃ es n, KDict X.K X.w C es n) (ho : PE X o (tC (.ref C))) (he : PE X e ty) (hf : PE X f tx) (m : M2 X o "get" apos e f cpos) :
    PE X (.Call (.Attribute o "get" apos) [e, f] [] cpos) (tKGet2 X.K X.w C ty tx) := by
  obtain ⟨es, n, D⟩ := D
  refine ⟨fun pins s σ H Q I h => ?_⟩
  have mo : ∀ {s1 : Shared} {H1 : Hp}, Inv X pins σ H1 s1 → Heap.MapOf (strKind X.prog X.w) s1.heap C fun k => PySem.findBy PySem.Value.isStrOf es k := fun I => PySem.W.mapOf_K I.kIn D.at_ D.lit
  refine wpAny_Call_method m.base m.few m.line PySem.F.plainAttrs_dict PySem.F.slot_dict_get PySem.F.type_dict_get (thn (ho.run pins s σ H (fun x H1 => x = .ref C ∧ tKGet2 X.K X.w C ty tx σ H1 Q) I ⟨rfl, h⟩) fun u s1 ⟨x, H1, I1, rx, ex, q1⟩ => ?_)
  subst ex
  obtain rfl : u = Value.ref C := rx
  refine ⟨(mo I1).typeIs, (mo I1).noDict, ?_⟩
  rw [m.trees]
  refine Calls.callWith_builtin rfl (Calls.evalArgs_plain (Calls.spliced_cons (thn (he.run pins s1 σ H1 _ I1 q1) fun iv s2 ⟨y, H2, I2, ry, q2⟩ =>
    Calls.spliced_cons (thn (hf.run pins s2 σ H2 _ I2 q2) fun fv s3 ⟨z, H3, I3, rz, x, ey, q3⟩ => Calls.spliced_nil ?_))))
  subst ey
  obtain ⟨t, rfl⟩ : ∃ t, iv = Value.str x t := ry
  refine call_meetsIn PySem.F.slot_dict_get (mo I3).typeIs PySem.F.entry_dict_get (PySem.F.args_dict_get_3 _ _ _) (meets_dict_get_default (strKind X.prog X.w) (k := x) C (by show (Value.str x t).isStr x = true; exact beq_self_eq_true x) D.low _) ⟨_, mo I3, ?_⟩
  rcases q3 with ⟨v, ⟨es2, n2, u, lk, lit, hn, rv⟩, q⟩ | ⟨hn, q⟩
  · exact ⟨v, H3, I3.tok _, by rw [find_of_ns hn D.at_]; exact rv, q⟩
  · exact ⟨z, H3, I3.tok _, by rw [find_of_ns hn D.at_]; exact rz, q⟩
end Own

/-! Pt11: sets of nodes while a text is read -/
namespace Pt
noncomputable def dec (p : Prop) : Bool := @decide p (Classical.propDecidable p)
/-- a node that stays: it reads something, or it is the last -/
def Stay (N : Net) (m : Nat) : Prop := (∃ l, N.reads[m]? = some l ∧ l ≠ []) ∨ m = 1
noncomputable def all (N : Net) : List Nat := (List.range N.reads.length).filter fun m => dec (Stay N m)
noncomputable def jmp (N : Net) (S : Nat → Prop) : List Nat := (all N).filter fun m => dec (∃ n, S n ∧ JS N n m)
/-- what reading the p-th letter leads to -/
def rdS (N : Net) (gs k : List Nat) (p : Nat) : Nat → Prop := fun m => ∃ n, n ∈ k ∧ m = n + 1 ∧ ∃ l c, N.reads[n]? = some l ∧ gs[p]? = some c ∧ c ∈ l
noncomputable def nx (N : Net) (gs k : List Nat) (p : Nat) : List Nat := jmp N (rdS N gs k p)
/-! ### few sets -/
def subs : List Nat → List (List Nat)
  | [] => [[]]
  | a :: l => subs l ++ (subs l).map (a :: ·)
end Pt

/-! Pt12: few rooms -/
namespace Pt
noncomputable def rooms (N : Net) : List (List Nat) := subs (all N)
end Pt

/-! Pt13: heads of rows, how deep groups lie, places within the word -/
namespace Pt
def dep : X → Nat
  | .nil => 0
  | .bar r => dep r
  | .sym _ _ r => dep r
  | .grp g _ r => max (dep g + 1) (dep r)
/-- the head of a row -/
inductive Hd where
  | sym (c : Nat)
  | grp (g : X)
def hdT : Hd → List Nat
  | .sym c => [c]
  | .grp g => 40 :: (tx g ++ [41])
/-- what follows a row begins with no sign of a row -/
def Ends (t : List Nat) : Prop := ∀ c r, t = c :: r → c = 124 ∨ c = 41
end Pt

namespace Own
open PySem PySem.Spec PyProof.Rows L2 SX RZ
def topS (i : Nat) : Stmt :=
  PySem.Challenge.pw_ownfill_k77_capacities_of_books.main.body.getD i (.Pass ⟨0, 0, 0, 0⟩)
section
variable {P : Program} {w : World} {K : PySem.W.Frag} {mg : Str → Option Value} {base : Heap}
abbrev sDraws : Stmt := topS 125
theorem scDraws : FnScope ["_law_script", "_law_state", "_law_cell"] ["_law_script"] (defScope sDraws) :=
  ⟨rfl, rfl, rfl, by decide +kernel, rfl, by decide +kernel, by decide +kernel⟩
theorem ok_draws {f : Addr} {fd : FuncData} (F : Fun K "_law_draws" "_law_draws" sDraws f fd)
    (mi : mg "int" = none) (ml : mg "list" = none) :
    FnOk P w K mg base CX0 1 f fd ["_law_script"] (spDraws K) := by
  refine F.ok scDraws (fun vs H Q E h => ?_) (fun cdv A outer s H vs Q E hr h => ?_)
  · obtain ⟨a, ns, rfl, _⟩ := h
    rfl
  · obtain ⟨a, ns, rfl, hS, q⟩ := h
    refine ⟨_, pss_cons (ps_set (i := 1) scDraws.nd rfl (.inl rfl) pe_int)
      (pss_cons (ps_for PassesOwn.never rfl
          (pi_list (pe_slice sl_list (pv 0) po_none (po_some pe_int)))
          (pg_name (i := 2) scDraws.nd rfl (.inl rfl))
          (pss_one (ps_set (i := 1) scDraws.nd rfl (.inl rfl)
            (pe_op op_mod (pe_callTy call_int1 (by rfl) mi (by decide +kernel) (pa_cons
              (pe_op op_add (pe_op op_add (pe_op op_mul (pv 1) pe_int)
                (pe_op op_mod (pe_callTy call_int1 (by rfl) mi (by decide +kernel) (pa_cons (pv 2) pa_nil)) pe_int))
                pe_int) pa_nil)) pe_int))))
      (pss_one (ps_ret (pe_lst (pa_cons (pe_callTy call_list_of (by rfl) ml (by decide +kernel)
          (pa_cons (pe_slice sl_list (pv 0) po_none (po_some pe_int)) pa_nil))
        (pa_cons pe_int (pa_cons pe_int (pa_cons (pv 1) (pa_cons pe_int pa_nil))))))))), ?_⟩
    refine ⟨.ref a, rfl, 63, rfl, a, ns.map V.int, rfl, hS, fun p np => ?_⟩
    have hcut : cutV (ns.map V.int) none (some 63) = (ns.take 63).map V.int := by
      unfold cutV
      rw [HT.sIx_none, show HT.sIx (ns.map V.int).length (ns.map V.int).length (some 63) =
        min 63 (ns.map V.int).length from HT.sIx_nat _ _ 63, List.drop_zero, Nat.sub_zero,
        ← List.map_take]
      congr 1
      rw [List.length_map, List.take_eq_take_iff]
      omega
    rw [hcut]
    have s1 : Same H (upd H p (.lst ((ns.take 63).map V.int))) := fun b o e => by
      rw [upd_ne (ne_of_none e np)]; exact e
    refine ⟨p, rfl, ⟨_, .inl (.inl upd_same)⟩, for_list (K := K) (a := p) (xs := (ns.take 63).map V.int)
      (fun i σ H' => ∃ (st : Int) (v : Option V), σ = [some (.ref a), some (.int st), v] ∧
        H' = upd H p (.lst ((ns.take 63).map V.int)))
      ⟨3833, none, rfl, rfl⟩ (fun i σ H' _ ⟨_, _, _, e⟩ => by rw [e]; exact .inl (.inl upd_same)) ?_ ?_⟩
    · rintro i y σ H' hi ⟨st, v, rfl, rfl⟩
      obtain ⟨u, rfl⟩ : ∃ u, y = V.int u := by
        rw [List.getElem?_map] at hi
        cases e : (ns.take 63)[i]? with
        | none => rw [e] at hi; cases hi
        | some u => rw [e] at hi; exact ⟨u, (Option.some.inj hi).symm⟩
      refine ⟨_, rfl, _, _, rfl, rfl, .inr ⟨by decide, by decide⟩, _, rfl, .inl ⟨_, rfl, _, _, rfl, rfl,
        (by show (0 : Int) < 2147483587; decide), _, _, rfl, rfl, _, _, rfl, rfl, .inl ⟨_, rfl, _, _, rfl, rfl,
        (by show (0 : Int) < 2147483647; decide), ?_⟩⟩⟩
      exact ⟨_, _, rfl, rfl⟩
    · rintro σ H' ⟨st, v, rfl, rfl⟩
      refine ⟨.ref a, rfl, 63, rfl, a, ns.map V.int, rfl, s1.seq hS, fun p2 np2 => ?_⟩
      rw [hcut]
      refine ⟨p2, _, rfl, .inl (.inl (.inl upd_same)), fun l nl => ?_⟩
      refine ⟨.int st, rfl, (by show 5 ≤ sizeLine; decide), fun r nr => ?_⟩
      have s2 := fun b o (e : H b = some o) => s1 b o e
      refine q _ r (fun b o e => ?_) ?_ ?_
      · have e1 := s1 b o e
        have e2 : (upd (upd H p (.lst ((ns.take 63).map V.int))) p2 (.lst ((ns.take 63).map V.int))) b = some o := by
          rw [upd_ne (ne_of_none e1 np2)]; exact e1
        have e3 : (upd (upd (upd H p (.lst ((ns.take 63).map V.int))) p2 (.lst ((ns.take 63).map V.int))) l
            (.lst ((ns.take 63).map V.int))) b = some o := by
          rw [upd_ne (ne_of_none e2 nl)]; exact e2
        rw [upd_ne (ne_of_none e3 nr)]
        exact e3
      · cases e : H r with
        | none => rfl
        | some o =>
          have e1 := s1 r o e
          have e2 : (upd (upd H p (.lst ((ns.take 63).map V.int))) p2 (.lst ((ns.take 63).map V.int))) r = some o := by
            rw [upd_ne (ne_of_none e1 np2)]; exact e1
          rw [upd_ne (ne_of_none e2 nl)] at nr
          rw [e2] at nr
          cases nr
      · refine ⟨l, ns.take 63, 0, 0, st, 0, Int.le_refl 0, upd_same, ?_⟩
        have nlr : l ≠ r := fun e => by
          rw [← e, upd_same] at nr
          cases nr
        rw [upd_ne nlr, upd_same]
abbrev sDraw : Stmt := topS 126
theorem scDraw : FnScope ["_law_rng", "_law_sides", "_law_cell", "_law_digit", "_law_seed"]
    ["_law_rng", "_law_sides"] (defScope sDraw) :=
  ⟨rfl, rfl, rfl, by decide +kernel, rfl, by decide +kernel, by decide +kernel⟩
theorem ok_draw {f : Addr} {fd : FuncData} (F : Fun K "_law_draw" "_law_draw" sDraw f fd)
    (mi : mg "int" = none) (ml : mg "len" = none) :
    FnOk P w K mg base CX0 1 f fd ["_law_rng", "_law_sides"] spDraw := by
  refine F.ok scDraw (fun vs H Q E h => ?_) (fun cdv A outer s H vs Q E hr h => ?_)
  · obtain ⟨r, n, rfl, _⟩ := h
    rfl
  · obtain ⟨r, n, rfl, hn, hn2, ⟨l, ns, i, b, z, c, R⟩, q⟩ := h
    have R0 : RngL H r l := ⟨ns, i, b, z, c, R⟩
    refine ⟨_, pss_cons (ps_asg (pe_op op_add (pe_ix ix_list (pv 0) pe_int (fun _ _ => rfl)) pe_int)
        (pg_sub (pv 0) pe_int set_list))
      (C8.pss_cut (ps_if (PW.pt (pw_and (pt_cmpR op_eq (pe_ix ix_list (pv 0) pe_int (fun _ _ => rfl)) pe_int (nomark _))
          (pw_and1 (pt_cmpR op_lt (pe_ix ix_list (pv 0) pe_int (fun _ _ => rfl))
            (pe_callB call_len_seq (by rfl) ml PySem.boot_len (pa_cons (pe_ix ix_list (pv 0) pe_int (fun _ _ => rfl)) pa_nil))
            (nomark _)))))
        (pss_cons (ps_set (i := 2) scDraw.nd rfl (.inl rfl)
            (pe_ix ix_list (pe_ix ix_list (pv 0) pe_int (fun _ _ => rfl)) (pe_ix ix_list (pv 0) pe_int (fun _ _ => rfl)) (fun _ _ => rfl)))
        (pss_cons (ps_asg (pe_op op_add (pe_ix ix_list (pv 0) pe_int (fun _ _ => rfl)) pe_int) (pg_sub (pv 0) pe_int set_list))
        (pss_one (ps_if (pt_cmpR op_ge (pv 2) (pe_op op_pow pe_int pe_int) (nomark _))
          (pss_one (ps_asg (pv 2) (pg_sub (pv 0) pe_int set_list)))
          (pss_one (ps_asg (pe_op op_mod (pe_callTy call_int1 (by rfl) mi (by decide +kernel) (pa_cons
              (pe_op op_add (pe_op op_add (pe_op op_mul (pe_ix ix_list (pv 0) pe_int (fun _ _ => rfl)) pe_int)
                (pe_op op_mul (pe_op op_mod (pe_callTy call_int1 (by rfl) mi (by decide +kernel) (pa_cons (pv 2) pa_nil)) pe_int) pe_int))
                pe_int) pa_nil)) pe_int) (pg_sub (pv 0) pe_int set_list)))))))
        pss_nil)
      (pss_cons (ps_if (pt_cmpR op_gt (pe_ix ix_list (pv 0) pe_int (fun _ _ => rfl)) pe_int (nomark _))
        (pss_cons (ps_set (i := 3) scDraw.nd rfl (.inl rfl) (pe_op op_mod (pe_callTy call_int1 (by rfl) mi (by decide +kernel)
            (pa_cons (pe_ix ix_list (pv 0) pe_int (fun _ _ => rfl)) pa_nil)) (pv 1)))
        (pss_cons (ps_asg (pe_op op_fdiv (pe_ix ix_list (pv 0) pe_int (fun _ _ => rfl)) (pv 1)) (pg_sub (pv 0) pe_int set_list))
        (pss_one (ps_ret (pv 3))))) pss_nil)
      (pss_cons (ps_set (i := 4) scDraw.nd rfl (.inl rfl) (pe_ix ix_list (pv 0) pe_int (fun _ _ => rfl)))
      (pss_cons (ps_asg (pe_op op_mod (pe_callTy call_int1 (by rfl) mi (by decide +kernel) (pa_cons
          (pe_op op_add (pe_op op_add (pe_op op_add (pe_op op_mul (pv 4) pe_int)
            (pe_op op_mul (pe_op op_fdiv (pv 4) pe_int) pe_int))
            (pe_op op_mul (pe_ix ix_list (pv 0) pe_int (fun _ _ => rfl)) pe_int)) pe_int) pa_nil)) pe_int)
          (pg_sub (pv 0) pe_int set_list))
      (pss_one (ps_ret (pe_op op_mod (pe_callTy call_int1 (by rfl) mi (by decide +kernel) (pa_cons
          (pe_op op_add (pe_op op_fdiv (pe_ix ix_list (pv 0) pe_int (fun _ _ => rfl)) pe_int)
            (pe_op op_mul (pe_op op_mod (pe_callTy call_int1 (by rfl) mi (by decide +kernel)
              (pa_cons (pe_ix ix_list (pv 0) pe_int (fun _ _ => rfl)) pa_nil)) pe_int) pe_int)) pa_nil)) (pv 1)))))))), ?_⟩
    have at0 : ∀ {l : Addr} {i b z c : Int}, atI [V.ref l, .int i, .int b, .int z, .int c] 0 = some (.ref l) := atI_nat (j := 0) rfl
    have at1 : ∀ {l : Addr} {i b z c : Int}, atI [V.ref l, .int i, .int b, .int z, .int c] 1 = some (.int i) := atI_nat (j := 1) rfl
    have at2 : ∀ {l : Addr} {i b z c : Int}, atI [V.ref l, .int i, .int b, .int z, .int c] 2 = some (.int b) := atI_nat (j := 2) rfl
    have at3 : ∀ {l : Addr} {i b z c : Int}, atI [V.ref l, .int i, .int b, .int z, .int c] 3 = some (.int z) := atI_nat (j := 3) rfl
    have at4 : ∀ {l : Addr} {i b z c : Int}, atI [V.ref l, .int i, .int b, .int z, .int c] 4 = some (.int c) := atI_nat (j := 4) rfl
    -- rng[4] += 1
    refine ⟨_, rfl, r, _, 4, _, rfl, rfl, SqL.of R.2.1, at4, _, _, rfl, rfl, _, rfl, r, _, 4, 4, rfl, rfl, R.2.1, rfl, ?_⟩
    have R1 : RngV (upd H r (.lst [.ref l, .int i, .int b, .int z, .int (c + 1)])) r l ns i b z (c + 1) := R.put R.1
    have g1 : ∀ x o, x ≠ r → H x = some o → upd H r (.lst [.ref l, .int i, .int b, .int z, .int (c + 1)]) x = some o :=
      fun x o nx e => by rw [upd_ne nx]; exact e
    refine ⟨fun σ H' => ∃ v2 v3 v4, σ = [some (.ref r), some (.int n), v2, v3, v4] ∧
      (∀ x o, x ≠ r → H x = some o → H' x = some o) ∧ RngL H' r l, ?_, ?_⟩
    · -- the script's next cell
      refine ⟨_, rfl, r, _, 2, _, rfl, rfl, SqL.of R1.2.1, at2, rfl, _, rfl, ?_⟩
      refine ite2 (fun _ => ?_) (fun _ => iteF ⟨none, none, none, rfl, g1, _, _, _, _, _, R1⟩)
      refine ⟨_, rfl, r, _, 1, _, rfl, rfl, SqL.of R1.2.1, at1, _, rfl, r, _, 0, _, rfl, rfl, SqL.of R1.2.1, at0,
        l, _, rfl, .inl (SqL.of R1.2.2), _, _, rfl, rfl, _, rfl, ?_⟩
      refine ite2 (fun hlt => ?_) (fun _ => ⟨none, none, none, rfl, g1, _, _, _, _, _, R1⟩)
      have hlt2 : i < ((ns.map V.int).length : Int) := of_decide_eq_true hlt
      rw [List.length_map] at hlt2
      obtain ⟨j, rfl⟩ := Int.eq_ofNat_of_zero_le R.1
      have hj : j < ns.length := by omega
      have gj : (ns.map V.int)[j]? = some (.int ns[j]) := by
        rw [List.getElem?_map, List.getElem?_eq_getElem hj]; rfl
      refine ⟨_, rfl, r, _, 0, _, rfl, rfl, SqL.of R1.2.1, at0, _, rfl, r, _, 1, _, rfl, rfl, SqL.of R1.2.1, at1,
        l, _, _, _, rfl, rfl, SqL.of R1.2.2, atI_nat gj, ?_⟩
      refine ⟨_, rfl, r, _, 1, _, rfl, rfl, SqL.of R1.2.1, at1, _, _, rfl, rfl, _, rfl, r, _, 1, 1, rfl, rfl, R1.2.1, rfl, ?_⟩
      have R2 := R1.put (i' := (j : Int) + 1) (b' := b) (s' := z) (c' := c + 1) (by omega)
      have g2 : ∀ x o, x ≠ r → H x = some o →
          upd (upd H r (.lst [.ref l, .int (j : Int), .int b, .int z, .int (c + 1)])) r
            (.lst [.ref l, .int ((j : Int) + 1), .int b, .int z, .int (c + 1)]) x = some o :=
        fun x o nx e => by rw [upd_ne nx]; exact g1 x o nx e
      refine ⟨_, rfl, _, _, rfl, rfl, ⟨by decide, by decide, by decide⟩, _, _, rfl, rfl, _, rfl, ?_⟩
      refine ite2 (fun _ => ?_) (fun _ => ?_)
      · refine ⟨_, rfl, _, rfl, r, _, 2, 2, rfl, rfl, R2.2.1, rfl, ?_⟩
        exact ⟨_, none, none, rfl, fun x o nx e => by rw [upd_ne nx]; exact g2 x o nx e, _, _, _, _, _, R2.put (by omega)⟩
      · refine ⟨_, rfl, r, _, 3, _, rfl, rfl, SqL.of R2.2.1, at3, _, _, rfl, rfl, .inr ⟨by decide, by decide⟩, _, rfl,
          .inl ⟨_, rfl, _, _, rfl, rfl, (by show (0 : Int) < 2147483579; decide), _, _, rfl, rfl, .inr ⟨by decide, by decide⟩,
          _, _, rfl, rfl, _, _, rfl, rfl, .inl ⟨_, rfl, _, _, rfl, rfl, (by show (0 : Int) < 2147483647; decide),
          _, rfl, r, _, 3, 3, rfl, rfl, R2.2.1, rfl, ?_⟩⟩⟩
        exact ⟨_, none, none, rfl, fun x o nx e => by rw [upd_ne nx]; exact g2 x o nx e, _, _, _, _, _, R2.put (by omega)⟩
    · rintro σ H' ⟨v2, v3, v4, rfl, g, ns, i, b, z, c, R⟩
      refine ⟨_, rfl, r, _, 2, _, rfl, rfl, SqL.of R.2.1, at2, _, _, rfl, rfl, _, rfl, ?_⟩
      refine ite2 (fun hb => ?_) (fun _ => ?_)
      · refine ⟨_, rfl, r, _, 2, _, rfl, rfl, SqL.of R.2.1, at2, .inl ⟨_, rfl, _, rfl, _, _, rfl, rfl, hn, ?_⟩⟩
        refine ⟨_, rfl, r, _, 2, _, rfl, rfl, SqL.of R.2.1, at2, _, rfl, _, _, rfl, rfl, ⟨hn, by omega⟩, _, rfl, r, _, 2, 2, rfl, rfl, R.2.1, rfl, ?_⟩
        refine ⟨_, rfl, q _ _ ⟨fun x o nx e => by rw [upd_ne nx]; exact g x o nx e, l, R0, _, _, _, _, _, R.put R.1⟩ ?_ ?_⟩
        · exact Int.emod_nonneg _ (by omega)
        · exact Int.emod_lt_of_pos _ hn
      · refine ⟨_, rfl, r, _, 3, _, rfl, rfl, SqL.of R.2.1, at3, ?_⟩
        refine ⟨_, rfl, _, _, rfl, rfl, .inr ⟨by decide, by decide⟩, _, rfl, _, _, rfl, rfl, ⟨by decide, by decide⟩,
          _, _, rfl, rfl, .inr ⟨by decide, by decide⟩, _, _, rfl, rfl, _, rfl, r, _, 4, _, rfl, rfl, SqL.of R.2.1, at4,
          _, _, rfl, rfl, .inr ⟨by decide, by decide⟩, _, _, rfl, rfl, _, _, rfl, rfl, .inl ⟨_, rfl, _, _, rfl, rfl,
          (by show (0 : Int) < 2147483647; decide), _, rfl, r, _, 3, 3, rfl, rfl, R.2.1, rfl, ?_⟩⟩
        have R2 := fun z' => R.put (i' := i) (b' := b) (s' := z') (c' := c) R.1
        refine ⟨_, rfl, r, _, 3, _, rfl, rfl, SqL.of (R2 _).2.1, at3, _, _, rfl, rfl, ⟨by decide, by decide⟩, _, rfl, r, _, 3, _, rfl, rfl,
          SqL.of (R2 _).2.1, at3, .inl ⟨_, rfl, _, _, rfl, rfl, (by show (0 : Int) < 7907; decide), _, _, rfl, rfl, .inr ⟨by decide, by decide⟩,
          _, _, rfl, rfl, .inl ⟨_, rfl, _, rfl, _, _, rfl, rfl, hn, ?_⟩⟩⟩
        refine q _ _ ⟨fun x o nx e => by rw [upd_ne nx]; exact g x o nx e, l, R0, _, _, _, _, _, R2 _⟩ ?_ ?_
        · exact Int.emod_nonneg _ (by omega)
        · exact Int.emod_lt_of_pos _ hn
abbrev sPick : Stmt := topS 127
theorem scPick : FnScope ["_law_rng", "_law_things"] ["_law_rng", "_law_things"] (defScope sPick) :=
  ⟨rfl, rfl, rfl, by decide +kernel, rfl, by decide +kernel, by decide +kernel⟩
theorem ok_pick {f fD : Addr} {fd fdD : FuncData} (F : Fun K "_law_pick" "_law_pick" sPick f fd)
    (FD : Fun K "_law_draw" "_law_draw" sDraw fD fdD) (bD : Binds K fdD ["_law_rng", "_law_sides"] [])
    (gD : mg "_law_draw" = some (.ref fD)) (mi : mg "int" = none) (ml : mg "len" = none) :
    FnOk P w K mg base CX0 2 f fd ["_law_rng", "_law_things"] (spPick K) := by
  have GD : FnOk P w K mg base CX0 1 fD fdD ["_law_rng", "_law_sides"] spDraw := ok_draw FD mi ml
  refine F.ok scPick (fun vs H Q E h => ?_) (fun cdv A outer s H vs Q E hr h => ?_)
  · obtain ⟨r, x, rfl, _⟩ := h
    rfl
  · obtain ⟨r, x, rfl, R, h⟩ := h
    refine ⟨_, pss_one (ps_ret (pe_ix ix_seq (pv 1) (pe_call GD hr (by rfl) gD FD.kp bD .nil pass0
      (pa_cons (pv 0) (pa_cons (pe_callB call_len (by rfl) ml PySem.boot_len (pa_cons (pv 1) pa_nil)) pa_nil)))
      (fun _ _ => rfl))), ?_⟩
    rcases h with ⟨a, xs, rfl, nar, hS, h0, h1, q⟩ | ⟨cs, rfl, h0, h1, q⟩
    · refine ⟨_, rfl, _, rfl, _, rfl, _, xs.length, rfl, .inl ⟨_, hS, rfl⟩, r, _, rfl, by omega, by omega, R, fun H' k g k0 k1 => ?_⟩
      obtain ⟨j, rfl⟩ := Int.eq_ofNat_of_zero_le k0
      have hj : j < xs.length := by omega
      exact .inl ⟨a, xs, _, xs[j], rfl, rfl, g.seq nar hS, atI_nat (List.getElem?_eq_getElem hj), q _ _ g (List.getElem_mem hj)⟩
    · refine ⟨_, rfl, _, rfl, _, rfl, _, cs.length, rfl, ⟨by rw [S_len]; exact small h1, by rw [S_len]⟩, r, _, rfl, by omega, by omega, R, fun H' k g k0 k1 => ?_⟩
      obtain ⟨j, rfl⟩ := Int.eq_ofNat_of_zero_le k0
      have hj : j < cs.length := by omega
      exact .inr (.inr ⟨_, _, cs[j], rfl, rfl, by rw [S_len]; exact small h1, atI_nat (List.getElem?_eq_getElem hj), q _ _ g (List.getElem_mem hj)⟩)
abbrev sLetters : Stmt := topS 131
theorem scLetters : FnScope ["_law_rng", "_law_my_most", "_law_size", "_law_first", "_law_step", "_law_k"]
    ["_law_rng", "_law_my_most"] (defScope sLetters) :=
  ⟨rfl, rfl, rfl, by decide +kernel, rfl, by decide +kernel, by decide +kernel⟩
theorem ok_letters {f fD fP : Addr} {fd fdD fdP : FuncData} (F : Fun K "_law_letters" "_law_letters" sLetters f fd)
    (FD : Fun K "_law_draw" "_law_draw" sDraw fD fdD) (bD : Binds K fdD ["_law_rng", "_law_sides"] [])
    (gD : mg "_law_draw" = some (.ref fD))
    (FP : Fun K "_law_pick" "_law_pick" sPick fP fdP) (bP : Binds K fdP ["_law_rng", "_law_things"] [])
    (gP : mg "_law_pick" = some (.ref fP)) (mi : mg "int" = none) (ml : mg "len" = none)
    (mm : mg "min" = none) (mr : mg "range" = none) :
    FnOk P w K mg base CX0 3 f fd ["_law_rng", "_law_my_most"] spLetters := by
  have GD : FnOk P w K mg base CX0 1 fD fdD ["_law_rng", "_law_sides"] spDraw := ok_draw FD mi ml
  have GP : FnOk P w K mg base CX0 2 fP fdP ["_law_rng", "_law_things"] (spPick K) := ok_pick FP FD bD gD mi ml
  refine F.ok scLetters (fun vs H Q E h => ?_) (fun cdv A outer s H vs Q E hr h => ?_)
  · obtain ⟨r, m, rfl, _⟩ := h
    rfl
  · obtain ⟨r, m, rfl, hm, R, q⟩ := h
    have hr1 : Room 1 _ := hr.mono (by decide)
    refine ⟨_, pss_cons (ps_set (i := 2) scLetters.nd rfl (.inl rfl) (pe_callB (call_min2 rfl) (by rfl) mm (by decide +kernel)
        (pa_cons (pv 1) (pa_cons (pe_call GP hr (by rfl) gP FP.kp bP .nil pass0 (pa_cons (pv 0)
          (pa_cons (pe_lst (pa_cons pe_int (pa_cons pe_int (pa_cons pe_int (pa_cons pe_int (pa_cons pe_int (pa_cons pe_int pa_nil))))))) pa_nil))) pa_nil))))
      (pss_cons (ps_asg (pe_tup (pa_cons (pe_call GD hr1 (by rfl) gD FD.kp bD .nil pass0 (pa_cons (pv 0) (pa_cons pe_int pa_nil)))
          (pa_cons (pe_call GP hr (by rfl) gP FP.kp bP .nil pass0 (pa_cons (pv 0)
          (pa_cons (pe_lst (pa_cons pe_int (pa_cons pe_int (pa_cons pe_int (pa_cons pe_int (pa_cons pe_int pa_nil)))))) pa_nil))) pa_nil)))
          (pg_tup rfl (pgs_cons (pg_name (i := 3) scLetters.nd rfl (.inr rfl)) (pgs_cons (pg_name (i := 4) scLetters.nd rfl (.inr rfl)) pgs_nil))))
      (pss_one (ps_ret (pe_join pe_str (pe_lc (own := [("_law_k", 5)]) (g := gName 5) (tt := tYes) rfl scLetters.nd
        (pi_range1 rfl mr (pa_cons (pv 2) pa_nil))
        (blkOk_by (N := ["_law_rng", "_law_my_most", "_law_size", "_law_first", "_law_step", "_law_k"]) (sc := defScope sLetters) (by decide +kernel))
        (fun _ _ _ _ _ => pg_name (i := 5) scLetters.nd rfl (Or.inl rfl)) (fun _ _ _ _ _ => pts_nil)
        (fun _ _ _ _ _ => pe_ix ix_str pe_str (pe_op op_mod (pe_callTy call_int1 (by rfl) mi (by decide +kernel)
          (pa_cons (pe_op op_add (pv 3) (pe_op op_mul (pv 4) (pv 5))) pa_nil)) pe_int) (fun _ _ => rfl))))))), ?_⟩
    obtain ⟨xr, er⟩ := R.ex
    refine ⟨_, rfl, _, rfl, (by show 6 ≤ sizeLine; decide), fun l nl => ?_⟩
    refine ⟨r, .ref l, rfl, R.same (same_new nl), .inl ⟨l, _, rfl, (ne_of_none er nl).symm, .inl (.inl upd_same), by decide, by decide, fun H1 v g1 hv => ?_⟩⟩
    obtain ⟨j, rfl, hj⟩ : ∃ j : Nat, v = .int j ∧ j ∈ [2, 3, 4] := by
      simp only [List.mem_cons, List.not_mem_nil, or_false] at hv
      rcases hv with e | e | e | e | e | e <;>
        first | exact ⟨2, e, by decide⟩ | exact ⟨3, e, by decide⟩ | exact ⟨4, e, by decide⟩
    have G1 : Go r H H1 := Go.after R (same_new nl) g1
    obtain ⟨n, hn1, hn2, hn3⟩ : ∃ n : Nat, (if (j : Int) < m then (j : Int) else m) = (n : Int) ∧ n ∈ [2, 3, 4] ∧ (n : Int) ≤ m := by
      have hj2 : 2 ≤ j ∧ j ≤ 4 := by
        simp only [List.mem_cons, List.not_mem_nil, or_false] at hj
        omega
      by_cases h : (j : Int) < m
      · rw [if_pos h]
        exact ⟨j, rfl, hj, by omega⟩
      · rw [if_neg h]
        refine ⟨m.toNat, by omega, ?_, by omega⟩
        simp only [List.mem_cons, List.not_mem_nil, or_false]
        omega
    refine ⟨_, _, rfl, ?_⟩
    rw [hn1]
    refine ⟨_, rfl, r, 26, rfl, by decide, by decide, g1.rng, fun H2 f g2 f0 f1 => ?_⟩
    obtain ⟨f, rfl⟩ := Int.eq_ofNat_of_zero_le f0
    obtain ⟨x2, e2⟩ := g2.rng.ex
    refine ⟨_, rfl, (by show 5 ≤ sizeLine; decide), fun l2 nl2 => ?_⟩
    refine ⟨r, .ref l2, rfl, g2.rng.same (same_new nl2), .inl ⟨l2, _, rfl, (ne_of_none e2 nl2).symm, .inl (.inl upd_same), by decide, by decide, fun H3 v g3 hv => ?_⟩⟩
    obtain ⟨t, rfl, ht⟩ : ∃ j : Nat, v = .int j ∧ j ∈ [1, 3, 5, 25, 7] := by
      simp only [List.mem_cons, List.not_mem_nil, or_false] at hv
      rcases hv with e | e | e | e | e <;>
        first | exact ⟨1, e, by decide⟩ | exact ⟨3, e, by decide⟩ | exact ⟨5, e, by decide⟩ | exact ⟨25, e, by decide⟩ | exact ⟨7, e, by decide⟩
    have G3 : Go r H H3 := (G1.trans g2).trans (Go.after g2.rng (same_new nl2) g3)
    refine ⟨(by show 2 ≤ sizeLine; decide), fun T nT => ?_⟩
    refine ⟨T, _, rfl, .inl (.inl upd_same), rfl, _, _, rfl, _, _, rfl, rfl, ?_⟩
    have G4 := G3.same (same_new (o := .tup [.int (f : Int), .int (t : Int)]) nT)
    have hn4 : n ≤ 4 := by
      simp only [List.mem_cons, List.not_mem_nil, or_false] at hn2
      omega
    refine ⟨⟨_, rfl⟩, _, rfl, _, rfl, by omega, by omega, fun D nD => ?_⟩
    have t25 : t ≤ 25 := by
      simp only [List.mem_cons, List.not_mem_nil, or_false] at ht
      omega
    refine lc_range (lo := 0) (n := (n : Int).toNat)
      (fun i H' => H' = upd (upd H3 T (.tup [.int (f : Int), .int (t : Int)])) D (.lst ((lets f t i).map fun c => V.str (S [c])))) rfl ?_ ?_
    · rintro i H' hi rfl
      have ei : ((f : Int) + (t : Int) * (0 + (i : Int))) % 26 = (((f + t * i) % 26 : Nat) : Int) := by
        rw [Int.zero_add, ← Int.natCast_mul]
        generalize t * i = u
        omega
      have ec : (List.range' 97 26)[(f + t * i) % 26]? = some (97 + (f + t * i) % 26) := by
        rw [List.getElem?_range' (by omega)]
        simp
      refine ⟨rfl, _, rfl, _, rfl, _, rfl, _, _, rfl, rfl, .inl ⟨by omega, by omega⟩, _, _, rfl, rfl, .inl ⟨_, rfl, _, _, rfl, rfl,
        (by show (0 : Int) < 26; decide), ?_⟩⟩
      refine ⟨_, _, 97 + (f + t * i) % 26, rfl, rfl, by decide, ?_, _, upd_same, ?_, ?_⟩
      · show atI (Str.ofString "abcdefghijklmnopqrstuvwxyz").cps.toList (((f : Int) + (t : Int) * (0 + (i : Int))) % 26) = _
        rw [az, ei]
        exact atI_nat ec
      · rw [List.length_map]
        unfold lets
        rw [List.length_map, List.length_range]
        exact small1000 (by omega)
      · rw [upd_upd]
        unfold lets
        rw [List.range_succ, List.map_append, List.map_append]
        rfl
    · rintro H' rfl
      have nDr : D ≠ r := by
        obtain ⟨x4, e4⟩ := G4.rng.ex
        exact (ne_of_none e4 nD).symm
      refine ⟨_, D, (lets f t n).map (fun c => S [c]), rfl, rfl, .inl (.inl (.inl ?_)), ?_, ?_⟩
      · rw [upd_same, List.map_map]
        rfl
      · rw [one_len]
        have : (lets f t n).length = n := by unfold lets; rw [List.length_map, List.length_range]
        rw [this]
        show n + _ * 0 ≤ _
        omega
      · rw [joinC]
        refine q _ _ (G4.same (same_new nD)) (lets_good (by omega) ht hn2) ?_
        have : (lets f t n).length = n := by unfold lets; rw [List.length_map, List.length_range]
        omega
abbrev sIs : Stmt := topS 26
theorem scIs : FnScope ["letters", "turn"] ["letters", "turn"] (defScope sIs) :=
  ⟨rfl, rfl, rfl, by decide +kernel, rfl, by decide +kernel, by decide +kernel⟩
theorem ok_is {f : Addr} {fd : FuncData} (F : Fun K "is_turn" "is_turn" sIs f fd) (ms : mg "sorted" = none) :
    FnOk P w K mg base CX0 1 f fd ["letters", "turn"] spIs := by
  refine F.ok scIs (fun vs H Q E h => ?_) (fun cdv A outer s H vs Q E hr h => ?_)
  · obtain ⟨gs, t, rfl, _⟩ := h
    rfl
  · obtain ⟨gs, t, rfl, l1, l2, c1, c2, q⟩ := h
    refine ⟨_, pss_one (ps_ret (pe_cmpR (op_eqD hr.units) (pe_callB (call_sortedTx rfl) (by rfl) ms (by decide +kernel) (pa_cons (pv 1) pa_nil))
      (pe_callB (call_sortedTx rfl) (by rfl) ms (by decide +kernel) (pa_cons (pv 0) pa_nil)) (nomark _))), ?_⟩
    refine ⟨_, rfl, S t, rfl, l2, fun ys1 p1 hp1 hs1 n1 => ⟨_, rfl, S gs, rfl, l1, fun ys2 p2 hp2 hs2 n2 => ?_⟩⟩
    obtain ⟨ls, rfl, h1⟩ := signs_of (zs := t) hp1
    obtain ⟨ms', rfl, h2⟩ := signs_of (zs := gs) hp2
    have s1 := same_new (o := .lst ((ls.map S).map V.str)) n1
    have s2 := same_new (o := .lst ((ms'.map S).map V.str)) n2
    refine ⟨_, _, .lst (.inl (.inl (s2 _ _ upd_same))) (dp_all ls), .lst (.inl (.inl upd_same)) (dp_all ms'), shp_tx (small_of h1 c2), shp_tx (small_of h2 c1), ?_⟩
    rw [show PyData.eqv (.list (ls.map fun c => PyData.str (S c))) (.list (ms'.map fun c => PyData.str (S c))) = decide (ls = ms') from eqvAll_tx ls ms', signs_eq h1 h2 hs1 hs2]
    exact q _ (s1.trans s2)
abbrev sSame : Stmt := topS 128
theorem scSame : FnScope ["_law_found", "_law_due", "_law_a", "_law_b"] ["_law_found", "_law_due"] (defScope sSame) :=
  ⟨rfl, rfl, rfl, by decide +kernel, rfl, by decide +kernel, by decide +kernel⟩
theorem same_step {f : Addr} {fd : FuncData} {n : Nat} (F : Fun K "_law_same" "_law_same" sSame f fd) (T : SameT mg)
    (bS : Binds K fd ["_law_found", "_law_due"] []) (gS : mg "_law_same" = some (.ref f))
    (GS : FnOk P w K mg base CX0 n f fd ["_law_found", "_law_due"] (spSm K n)) :
    FnOk P w K mg base CX0 (n + 1) f fd ["_law_found", "_law_due"] (spSm K (n + 1)) := by
  refine F.ok scSame (fun vs H Q E h => ?_) (fun cdv A outer s H vs Q E hr h => ?_)
  · obtain ⟨x, y, rfl, _⟩ := h
    rfl
  · obtain ⟨x, y, rfl, h, q⟩ := h
    refine ⟨_, pss_cons (ps_if (pt_val (pe_callB call_isiT (by rfl) T.isi (by decide +kernel) (pa_cons (pv 1) (pa_cons
          (pe_tup (pa_cons (pe_bltn (v := .ty "list") (u := .type "list") (by rfl) T.list (by decide +kernel) rfl)
            (pa_cons (pe_bltn (v := .ty "tuple") (u := .type "tuple") (by rfl) T.tuple (by decide +kernel) rfl) pa_nil))) pa_nil))))
        (pss_cons (ps_if (PW.pt (pw_or
            (pt_cmpR op_ne (pe_callB call_isi (by rfl) T.isi (by decide +kernel) (pa_cons (pv 0) (pa_cons (pe_bltn (v := .ty "list") (u := .type "list") (by rfl) T.list (by decide +kernel) rfl) pa_nil)))
              (pe_callB call_isi (by rfl) T.isi (by decide +kernel) (pa_cons (pv 1) (pa_cons (pe_bltn (v := .ty "list") (u := .type "list") (by rfl) T.list (by decide +kernel) rfl) pa_nil))) (nomark _))
            (pw_or1 (pt_cmpR op_ne (pe_callB call_isi (by rfl) T.isi (by decide +kernel) (pa_cons (pv 0) (pa_cons (pe_bltn (v := .ty "tuple") (u := .type "tuple") (by rfl) T.tuple (by decide +kernel) rfl) pa_nil)))
              (pe_callB call_isi (by rfl) T.isi (by decide +kernel) (pa_cons (pv 1) (pa_cons (pe_bltn (v := .ty "tuple") (u := .type "tuple") (by rfl) T.tuple (by decide +kernel) rfl) pa_nil))) (nomark _)))))
          pss_never pss_nil)
        (pss_one (ps_ret (pe_and (pe_cmpR op_eq (pe_callB call_len (by rfl) T.len PySem.boot_len (pa_cons (pv 0) pa_nil)) (pe_callB call_len (by rfl) T.len PySem.boot_len (pa_cons (pv 1) pa_nil)) (nomark _))
          (pe_one (pe_callB (cr_all rfl) (by rfl) T.all (by decide +kernel) (pa_cons
            (pe_lc (own := [("_law_a", 2), ("_law_b", 3)]) (g := gTup K 2 (gCons (gName 2) (gCons (gName 3) gNil))) (tt := tYes) rfl scSame.nd
              (pi_zipA (by rfl) T.zip (pa_cons (pv 0) (pa_cons (pv 1) pa_nil)))
              (blkOk_by (N := ["_law_found", "_law_due", "_law_a", "_law_b"]) (sc := defScope sSame) (by decide +kernel))
              (fun _ _ _ _ _ => pg_tup rfl (pgs_cons (pg_name (i := 2) scSame.nd rfl (Or.inl rfl)) (pgs_cons (pg_name (i := 3) scSame.nd rfl (Or.inl rfl)) pgs_nil)))
              (fun _ _ _ _ _ => pts_nil)
              (fun _ _ _ _ _ => pe_call GS hr (by rfl) gS F.kp bS .nil pass0 (pa_cons (pv 2) (pa_cons (pv 3) pa_nil)))) pa_nil)))))))
        pss_nil)
      (pss_cons (ps_if (PW.pt (pw_or (pt_cmpR op_isN (pv 1) pe_non (nomark _)) (pw_or1 (pt_cmpR op_isN (pv 0) pe_non (nomark _)))))
        (pss_one (ps_ret (pe_and (pe_cmpR op_isN (pv 1) pe_non (nomark _)) (pe_one (pe_cmpR op_isN (pv 0) pe_non (nomark _)))))) pss_nil)
      (pss_cons (ps_if (PW.pt (pw_or
            (pt_cmpR op_ne (pe_callB call_isi (by rfl) T.isi (by decide +kernel) (pa_cons (pv 1) (pa_cons (pe_bltn (v := .ty "bool") (u := .type "bool") (by rfl) T.bool (by decide +kernel) rfl) pa_nil)))
              (pe_callB call_isi (by rfl) T.isi (by decide +kernel) (pa_cons (pv 0) (pa_cons (pe_bltn (v := .ty "bool") (u := .type "bool") (by rfl) T.bool (by decide +kernel) rfl) pa_nil))) (nomark _))
            (pw_or1 (pt_cmpR op_ne (pe_callB call_isi (by rfl) T.isi (by decide +kernel) (pa_cons (pv 1) (pa_cons (pe_bltn (v := .ty "int") (u := .type "int") (by rfl) T.int (by decide +kernel) rfl) pa_nil)))
              (pe_callB call_isi (by rfl) T.isi (by decide +kernel) (pa_cons (pv 0) (pa_cons (pe_bltn (v := .ty "int") (u := .type "int") (by rfl) T.int (by decide +kernel) rfl) pa_nil))) (nomark _)))))
          pss_never pss_nil)
      (pss_one (ps_ret (pe_and (pe_cmpR op_eq (pe_callB call_isi (by rfl) T.isi (by decide +kernel) (pa_cons (pv 1) (pa_cons (pe_bltn (v := .ty "str") (u := .type "str") (by rfl) T.str (by decide +kernel) rfl) pa_nil)))
              (pe_callB call_isi (by rfl) T.isi (by decide +kernel) (pa_cons (pv 0) (pa_cons (pe_bltn (v := .ty "str") (u := .type "str") (by rfl) T.str (by decide +kernel) rfl) pa_nil))) (nomark _))
        (pe_one (pe_cmpR op_eq (pv 0) (pv 1) (nomark _)))))))), ?_⟩
    rcases h with ⟨rfl, hf⟩ | ⟨a, b, xs, ys, rfl, rfl, hab, l1, l2, k⟩
    · obtain ⟨t, hty, k1, k2, ⟨b1, k3⟩, ⟨b2, k4⟩, ⟨b3, k5⟩⟩ := flat_ty (K := K) hf
      refine ⟨_, rfl, (by show 2 ≤ sizeLine; decide), fun tp ntp => ?_⟩
      have s1 := same_new (o := .tup [.ty "list", .ty "tuple"]) ntp
      refine ⟨x, tp, _, .type t, [.type "list", .type "tuple"], false, rfl, upd_same, .cons (.ty _) (.cons (.ty _) .nil), hty _, kit2 k1 k2, false, rfl, iteF ?_⟩
      by_cases hx : x = .non
      · subst hx
        refine ⟨_, rfl, rfl, _, rfl, ?_⟩
        rw [decide_eq_true rfl]
        refine ⟨_, rfl, rfl, true, by rw [decide_eq_true rfl], iteT ⟨_, rfl, rfl, ?_⟩⟩
        rw [decide_eq_true rfl]
        exact q _ s1
      · refine ⟨_, rfl, rfl, _, rfl, ?_⟩
        rw [decide_eq_false hx]
        refine ⟨_, rfl, rfl, _, rfl, ?_⟩
        rw [decide_eq_false hx]
        refine ⟨_, rfl, x, .ty "bool", .type t, .type "bool", b1, rfl, .ty _, hty _, kit_ty k3, _, rfl, x, .ty "bool", .type t, .type "bool", b1, rfl, .ty _, hty _, kit_ty k3, rfl, _, rfl, ?_⟩
        refine iteNS rfl ?_
        refine ⟨_, rfl, x, .ty "int", .type t, .type "int", b2, rfl, .ty _, hty _, kit_ty k4, _, rfl, x, .ty "int", .type t, .type "int", b2, rfl, .ty _, hty _, kit_ty k4, rfl, _, rfl, ?_⟩
        refine iteNS rfl ?_
        refine ⟨_, rfl, x, .ty "str", .type t, .type "str", b3, rfl, .ty _, hty _, kit_ty k5, _, rfl, x, .ty "str", .type t, .type "str", b3, rfl, .ty _, hty _, kit_ty k5, rfl, true, by rw [decide_eq_true rfl], iteT ?_⟩
        refine ⟨_, rfl, _, rfl, ?_, ?_⟩
        · cases x with
          | non => exact absurd rfl hx
          | bl b => rfl
          | int i => rfl
          | str z => rfl
          | _ => exact hf.elim
        · rw [decide_eq_true rfl]
          exact q _ s1
    · refine ⟨_, rfl, (by show 2 ≤ sizeLine; decide), fun tp ntp => ?_⟩
      have s1 := same_new (o := .tup [.ty "list", .ty "tuple"]) ntp
      have turn : ∀ (D : Addr) (nD : (upd H tp (.tup [.ty "list", .ty "tuple"])) D = none) (i : Nat) (x : V) (H' H'' : Hp),
          (Same (upd H tp (.tup [.ty "list", .ty "tuple"])) H' ∧ H' D = some (.lst ((List.replicate i true).map V.bl))) → i < xs.length →
          YPair (fun i => xs[i]?) (fun i => ys[i]?) i H' x H'' →
          gTup K 2 (gCons (gName 2) (gCons (gName 3) gNil)) x [some (.ref a), some (.ref b), none, none] H'' fun σ2 H2 =>
            wipe σ2 [2, 3] = wipe [some (.ref a), some (.ref b), none, none] [2, 3] ∧ tYes σ2 H2 fun c H3 =>
            if c = true then tCall (spSm K n) [] E0 (tCons (tVar 2) (tCons (tVar 3) tNil)) σ2 H3 fun y H4 => ∃ acc, H4 D = some (.lst acc) ∧ acc.length < sizeLine ∧
              (Same (upd H tp (.tup [.ty "list", .ty "tuple"])) (upd H4 D (.lst (acc ++ [y]))) ∧ (upd H4 D (.lst (acc ++ [y]))) D = some (.lst ((List.replicate (i + 1) true).map V.bl)))
            else (Same (upd H tp (.tup [.ty "list", .ty "tuple"])) H3 ∧ H3 D = some (.lst ((List.replicate (i + 1) true).map V.bl))) := by
        rintro D nD i x H' H'' ⟨sm, hD⟩ hi ⟨T, u, v, rfl, nT, rfl, hu, hv⟩
        have s2 := same_new (o := .tup [u, v]) nT
        refine ⟨T, _, rfl, .inl (.inl upd_same), rfl, _, _, rfl, _, _, rfl, rfl, rfl, ?_⟩
        refine ⟨_, rfl, _, rfl, u, v, rfl, (k i u v hu hv).same ((s1.trans sm).trans s2), fun H4 s4 => ?_⟩
        refine ⟨_, s4 _ _ (s2 _ _ hD), ?_, fun b o e => ?_, ?_⟩
        · rw [List.length_map, List.length_replicate]
          exact small1000 (by omega)
        · rw [upd_ne (ne_of_none e nD)]
          exact s4 _ _ (s2 _ _ (sm _ _ e))
        · rw [upd_same, List.replicate_succ', List.map_append]
          rfl
      have fin : ∀ (D : Addr) (H' : Hp), (Same (upd H tp (.tup [.ty "list", .ty "tuple"])) H' ∧ H' D = some (.lst ((List.replicate xs.length true).map V.bl))) →
          rAll K [.ref D] H' fun v H' => Q v H' := by
        rintro D H' ⟨sm, hD⟩
        refine ⟨D, _, rfl, .inl (.inl hD), ?_⟩
        have e : (List.replicate xs.length true).all id = true := by
          rw [List.all_eq_true]
          intro c hc
          rw [List.eq_of_mem_replicate hc]
          rfl
        rw [e]
        exact q _ (s1.trans sm)
      rcases hab with ⟨ha, hb⟩ | ⟨ha, hb⟩
      · have ha := s1.seq ha
        have hb := s1.seq hb
        refine ⟨.ref b, tp, _, .type "list", [.type "list", .type "tuple"], true, rfl, upd_same, .cons (.ty _) (.cons (.ty _) .nil), tyL hb, kit2 (r := true) (s := false) (by decide +kernel) (by decide +kernel), true, rfl, iteT ?_⟩
        refine ⟨_, rfl, .ref a, .ty "list", .type "list", .type "list", true, rfl, .ty _, tyL ha, kit_ty (by decide +kernel), _, rfl, .ref b, .ty "list", .type "list", .type "list", true, rfl, .ty _, tyL hb, kit_ty (by decide +kernel), rfl, _, rfl, ?_⟩
        refine iteNS rfl ?_
        refine ⟨_, rfl, .ref a, .ty "tuple", .type "list", .type "tuple", false, rfl, .ty _, tyL ha, kit_ty (by decide +kernel), _, rfl, .ref b, .ty "tuple", .type "list", .type "tuple", false, rfl, .ty _, tyL hb, kit_ty (by decide +kernel), rfl, _, rfl, ?_⟩
        refine iteNS rfl ?_
        refine ⟨_, rfl, _, xs.length, rfl, .inl ⟨_, ha, rfl⟩, _, rfl, _, xs.length, rfl, .inl ⟨_, hb, l2⟩, rfl, true, by rw [decide_eq_true rfl], iteT ?_⟩
        refine ⟨_, rfl, _, rfl, a, b, xs, ys, rfl, .inl ⟨ha, hb, fun D nD => ?_⟩⟩
        refine lc_it (walk_zip (K := K) (a := a) (b := b) (xs := xs) (ys := ys) (n := xs.length) (by omega))
          (fun i H' => Same (upd H tp (.tup [.ty "list", .ty "tuple"])) H' ∧ H' D = some (.lst ((List.replicate i true).map V.bl)))
          ⟨same_new nD, upd_same⟩ (fun i H' _ ⟨sm, _⟩ => ⟨sm.seq ha, sm.seq hb⟩) (fun i x H' H'' hi p y => turn D nD i x H' H'' p hi y) (fun H' p => fin D H' p)
      · have ha := same_t s1 ha
        have hb := same_t s1 hb
        refine ⟨.ref b, tp, _, .type "tuple", [.type "list", .type "tuple"], true, rfl, upd_same, .cons (.ty _) (.cons (.ty _) .nil), tyT hb, kit2 (r := false) (s := true) (by decide +kernel) (by decide +kernel), true, rfl, iteT ?_⟩
        refine ⟨_, rfl, .ref a, .ty "list", .type "tuple", .type "list", false, rfl, .ty _, tyT ha, kit_ty (by decide +kernel), _, rfl, .ref b, .ty "list", .type "tuple", .type "list", false, rfl, .ty _, tyT hb, kit_ty (by decide +kernel), rfl, _, rfl, ?_⟩
        refine iteNS rfl ?_
        refine ⟨_, rfl, .ref a, .ty "tuple", .type "tuple", .type "tuple", true, rfl, .ty _, tyT ha, kit_ty (by decide +kernel), _, rfl, .ref b, .ty "tuple", .type "tuple", .type "tuple", true, rfl, .ty _, tyT hb, kit_ty (by decide +kernel), rfl, _, rfl, ?_⟩
        refine iteNS rfl ?_
        refine ⟨_, rfl, _, xs.length, rfl, .inr ⟨_, ha, rfl⟩, _, rfl, _, xs.length, rfl, .inr ⟨_, hb, l2⟩, rfl, true, by rw [decide_eq_true rfl], iteT ?_⟩
        refine ⟨_, rfl, _, rfl, a, b, xs, ys, rfl, .inr ⟨ha, hb, fun D nD => ?_⟩⟩
        refine lc_it (walk_zT (K := K) (a := a) (b := b) (xs := xs) (ys := ys) (n := xs.length) (by omega))
          (fun i H' => Same (upd H tp (.tup [.ty "list", .ty "tuple"])) H' ∧ H' D = some (.lst ((List.replicate i true).map V.bl)))
          ⟨same_new nD, upd_same⟩ (fun i H' _ ⟨sm, _⟩ => ⟨same_t sm ha, same_t sm hb⟩) (fun i x H' H'' hi p y => turn D nD i x H' H'' p hi y) (fun H' p => fin D H' p)

theorem ok_same {f : Addr} {fd : FuncData} (F : Fun K "_law_same" "_law_same" sSame f fd) (T : SameT mg)
    (bS : Binds K fd ["_law_found", "_law_due"] []) (gS : mg "_law_same" = some (.ref f)) :
    ∀ n, FnOk P w K mg base CX0 n f fd ["_law_found", "_law_due"] (spSm K n)
  | 0 => ⟨fun vs H Q E h => (let ⟨_, _, _, h, _⟩ := h; h.elim), fun A outer s H args us vs Q E _ _ _ _ h => (let ⟨_, _, _, h, _⟩ := h; h.elim)⟩
  | n + 1 => same_step F T bS gS (ok_same F T bS gS n)
abbrev sBk : Stmt := topS 31
theorem scBk : FnScope ["item"] ["item"] (defScope sBk) := ⟨rfl, rfl, rfl, by decide +kernel, rfl, by decide +kernel, by decide +kernel⟩
theorem ok_bk {f : Addr} {fd : FuncData} (F : Fun K "is_blank" "is_blank" sBk f fd) (ml : mg "len" = none) : FnOk P w K mg base CX0 1 f fd ["item"] spBk := by
  refine F.ok scBk (fun vs H Q E h => ?_) (fun cdv A outer s H vs Q E hr h => ?_)
  · obtain ⟨x, rfl, _⟩ := h
    rfl
  · obtain ⟨x, rfl, hl, q⟩ := h
    refine ⟨_, pss_one (ps_ret (pe_cmpR op_gt (pe_callB call_len_str (by rfl) ml PySem.boot_len (pa_cons (pv 0) pa_nil)) pe_int (nomark _))), ?_⟩
    refine ⟨_, rfl, _, rfl, by rw [S_len]; exact small hl, _, _, rfl, rfl, ?_⟩
    have e : decide (((S x).length : Int) > 1) = decide (1 < x.length) := by
      rw [decide_eq_decide, S_len]
      omega
    show Q (.bl (decide (((S x).length : Int) > 1))) H
    rw [e]
    exact q _ (Same.refl _)
abbrev sIt : Stmt := topS 34
theorem scIt : FnScope ["letters", "item"] ["letters", "item"] (defScope sIt) := ⟨rfl, rfl, rfl, by decide +kernel, rfl, by decide +kernel, by decide +kernel⟩
theorem ok_it {f f1 : Addr} {fd fd1 : FuncData} (F : Fun K "item_text" "item_text" sIt f fd) (c1 : Cl P w K mg base "is_blank" 1 ["item"] spBk f1 fd1) (mP : ∃ t, mg "PLAIN_BLANK" = some (.str "{}" t)) :
    FnOk P w K mg base CX0 2 f fd ["letters", "item"] spIt := by
  obtain ⟨tP, mP⟩ := mP
  refine F.ok scIt (fun vs H Q E h => ?_) (fun cdv A outer s H vs Q E hr h => ?_)
  · obtain ⟨gs, x, rfl, _⟩ := h
    rfl
  · obtain ⟨gs, x, rfl, hg, hl, q⟩ := h
    refine ⟨_, pss_cons (ps_if (pt_not (pt_val (pe_cl c1 hr (by decide) (by rfl) (pa_cons (pv 1) pa_nil)))) (pss_one (ps_ret (pv 1))) pss_nil)
      (pss_cons (ps_if (pt_cmpR op_eq (pv 1) (pv 0) (nomark _)) (pss_one (ps_ret (pe_glob (v := .str (Str.ofString "{}")) (by rfl) mP ⟨_, rfl⟩))) pss_nil)
      (pss_one (ps_ret (pe_join pe_str (pe_lst (pa_cons pe_str (pa_cons (pv 1) (pa_cons pe_str pa_nil)))))))), ?_⟩
    refine ⟨_, rfl, x, rfl, hl, fun H1 s1 => ⟨_, rfl, ?_⟩⟩
    by_cases h1 : 1 < x.length
    rotate_left
    · rw [decide_eq_false h1]
      refine iteT ⟨_, rfl, ?_⟩
      have e : iTx gs x = x := by unfold iTx; rw [if_neg h1]
      have := q H1 s1
      rw [e] at this
      exact this
    rw [decide_eq_true h1]
    refine iteF ⟨_, rfl, _, rfl, rfl, _, rfl, ?_⟩
    by_cases h2 : x = gs
    · rw [decide_eq_true (by rw [h2])]
      have e : iTx gs x = [123, 125] := by unfold iTx; rw [if_pos h1, if_pos h2]
      have := q H1 s1
      rw [e] at this
      exact iteT this
    · rw [decide_eq_false (fun e => h2 (S_inj (V.str.inj e)))]
      refine iteF ⟨⟨_, rfl⟩, _, rfl, (by show 3 ≤ sizeLine; decide), fun p np => ?_⟩
      have e : iTx gs x = [123] ++ x ++ [125] := by unfold iTx; rw [if_pos h1, if_neg h2]
      have o1 : Str.ofString "{" = S [123] := by decide +kernel
      have o2 : Str.ofString "}" = S [125] := by decide +kernel
      refine ⟨_, p, [[123], x, [125]].map S, rfl, rfl, .inl (.inl (.inl ?_)), ?_, ?_⟩
      · rw [upd_same, o1, o2]
        rfl
      · rw [sum_len]
        show ([123] ++ (x ++ ([125] ++ []))).length + _ * 0 ≤ _
        rw [List.length_append, List.length_append]
        show 1 + (_ + 1) + _ * 0 ≤ _
        omega
      · rw [joinT]
        have := q _ (s1.trans (same_new (o := .lst [.str (Str.ofString "{"), tx x, .str (Str.ofString "}")]) np))
        rw [e] at this
        rw [show [[123], x, [125]].flatten = [123] ++ x ++ [125] by simp]
        exact this
abbrev sRt : Stmt := topS 35
theorem scRt : FnScope ["letters", "row", "item"] ["letters", "row"] (defScope sRt) := ⟨rfl, rfl, rfl, by decide +kernel, rfl, by decide +kernel, by decide +kernel⟩
theorem ok_rt {f f1 : Addr} {fd fd1 : FuncData} (F : Fun K "row_text" "row_text" sRt f fd) (ml : mg "len" = none) (c1 : Cl P w K mg base "item_text" 2 ["letters", "item"] spIt f1 fd1) (mE : ∃ t, mg "EMPTY_TEXT" = some (.str "-" t)) :
    FnOk P w K mg base CX0 3 f fd ["letters", "row"] (spRt K) := by
  obtain ⟨tE, mE⟩ := mE
  refine F.ok scRt (fun vs H Q E h => ?_) (fun cdv A outer s H vs Q E hr h => ?_)
  · obtain ⟨gs, a, its, rfl, _⟩ := h
    rfl
  · obtain ⟨gs, a, its, rfl, hg, hs, hl, hx, q⟩ := h
    refine ⟨_, pss_cons (ps_if (pt_cmpR op_eq (pe_callB call_len (by rfl) ml PySem.boot_len (pa_cons (pv 1) pa_nil)) pe_int (nomark _)) (pss_one (ps_ret (pe_glob (v := .str (Str.ofString "-")) (by rfl) mE ⟨_, rfl⟩))) pss_nil)
      (pss_one (ps_ret (pe_join pe_str (pe_lc (own := [("item", 2)]) (g := gName 2) (tt := tYes) rfl scRt.nd (pi_any (pv 1))
        (blkOk_by (N := ["letters", "row", "item"]) (sc := defScope sRt) (by decide +kernel))
        (fun _ _ _ _ _ => pg_name (i := 2) scRt.nd rfl (Or.inl rfl)) (fun _ _ _ _ _ => pts_nil)
        (fun _ _ _ _ _ => pe_cl c1 hr (by decide) (by rfl) (pa_cons (pv 0) (pa_cons (pv 2) pa_nil))))))), ?_⟩
    have hln : LenV K (.ref a) H its.length := hs.imp (fun h => ⟨_, h, (List.length_map ..).symm⟩) (fun h => ⟨_, h, (List.length_map ..).symm⟩)
    refine ⟨_, rfl, _, its.length, rfl, hln, rfl, _, rfl, ?_⟩
    by_cases h0 : its = []
    · subst h0
      rw [decide_eq_true (show V.int ((([] : List (List Nat)).length : Nat) : Int) = V.int 0 from rfl)]
      exact iteT (q H (Same.refl _))
    · have hne : its.length ≠ 0 := fun e => h0 (List.length_eq_zero_iff.mp e)
      rw [decide_eq_false (fun e => hne (by have := V.int.inj e; omega))]
      refine iteF ⟨⟨_, rfl⟩, it_any (a := a) (xs := its.map tx) (fun k hk => ⟨_, rfl, hk⟩) hs (Same.refl _) fun J W D nD => ?_⟩
      refine lc_it W (fun i H' => Same H H' ∧ H' D = some (.lst (((its.take i).map (iTx gs)).map tx))) ⟨same_new nD, upd_same⟩ (fun _ _ _ h => h.1) ?_ ?_
      · rintro i y H' H'' hi ⟨s1, hD⟩ ⟨rfl, hy⟩
        obtain ⟨x, hx2, rfl⟩ := get_tx hy
        have hxm := hx x (List.mem_of_getElem? hx2)
        refine ⟨rfl, _, rfl, _, rfl, gs, x, rfl, hg, by omega, fun H3 s3 => ?_⟩
        refine ⟨_, s3 _ _ hD, ?_, same_put (s1.trans s3) nD, ?_⟩
        · rw [List.length_map, List.length_map, List.length_take]
          exact small1000 (by omega)
        · rw [upd_same, List.take_add_one, hx2]
          simp
      · rintro H' ⟨s1, hD⟩
        rw [List.length_map, List.take_length] at hD
        refine ⟨_, D, (its.map (iTx gs)).map S, rfl, rfl, .inl (.inl (.inl ?_)), ?_, ?_⟩
        · rw [hD]
          simp
        · rw [sum_len]
          have := flat_len (f := iTx gs) (m := 902) (its := its) fun x hx' => Nat.le_trans iTx_len (by have := hx x hx'; omega)
          show _ + _ * 0 ≤ _
          have : its.length * 902 ≤ 900 * 902 := Nat.mul_le_mul_right _ hl
          omega
        · rw [joinT]
          have := q _ s1
          unfold rTx at this
          rw [if_neg h0] at this
          exact this
abbrev sBw : Stmt := topS 32
theorem scBw : FnScope ["letters", "text", "at", "end"] ["letters", "text", "at"] (defScope sBw) := ⟨rfl, rfl, rfl, by decide +kernel, rfl, by decide +kernel, by decide +kernel⟩
theorem ok_bw {f f1 : Addr} {fd fd1 : FuncData} (F : Fun K "blank_width" "blank_width" sBw f fd) (ml : mg "len" = none) (c1 : Cl P w K mg base "is_turn" 1 ["letters", "turn"] spIs f1 fd1) (mP : ∃ t, mg "PLAIN_BLANK" = some (.str "{}" t)) :
    FnOk P w K mg base CX0 2 f fd ["letters", "text", "at"] spBw := by
  obtain ⟨tP, mP⟩ := mP
  refine F.ok scBw (fun vs H Q E h => ?_) (fun cdv A outer s H vs Q E hr h => ?_)
  · obtain ⟨gs, pre, post, x, z, rfl, _⟩ := h
    rfl
  · obtain ⟨gs, pre, post, x, z, rfl, hg, hl, hc⟩ := h
    refine ⟨_, pss_cons (ps_if (pt_cmpR op_eq (pe_slice C8.sl_txt (pv 1) (po_some (pv 2)) (po_some (pe_op op_add (pv 2) pe_int))) (pe_glob (v := .str (Str.ofString "{}")) (by rfl) mP ⟨_, rfl⟩) (nomark _)) (pss_one (ps_ret pe_int)) pss_nil)
      (pss_cons (ps_set (i := 3) scBw.nd rfl (.inl rfl) (pe_op op_add (pe_op op_add (pv 2) pe_int) (pe_callB call_len_str (by rfl) ml PySem.boot_len (pa_cons (pv 0) pa_nil))))
      (pss_cons (ps_if (PW.pt (pw_and (pt_cmpR op_eq (pe_ix ix_str (pv 1) (pv 2) (fun _ _ => rfl)) pe_str (nomark _))
          (pw_and (pt_cmpR op_eq (pe_slice C8.sl_txt (pv 1) (po_some (pv 3)) (po_some (pe_op op_add (pv 3) pe_int))) pe_str (nomark _))
          (pw_and1 (pt_val (pe_cl c1 hr (by decide) (by rfl) (pa_cons (pv 0) (pa_cons (pe_slice C8.sl_txt (pv 1) (po_some (pe_op op_add (pv 2) pe_int)) (po_some (pv 3))) pa_nil))))))))
        (pss_one (ps_ret (pe_op op_add (pe_callB call_len_str (by rfl) ml PySem.boot_len (pa_cons (pv 0) pa_nil)) pe_int))) pss_nil)
      (pss_one (ps_ret pe_int)))), ?_⟩
    have hz : (S (pre ++ z ++ post)).length ≤ sizeLine := by rw [S_len]; exact small hl
    have ob : Str.ofString "{}" = S [123, 125] := by decide +kernel
    have o1 : Str.ofString "{" = S [123] := by decide +kernel
    have o2 : Str.ofString "}" = S [125] := by decide +kernel
    refine ⟨_, rfl, _, rfl, _, rfl, _, rfl, _, _, rfl, rfl, _, rfl, _, rfl, hz, rfl, _, rfl, ?_⟩
    rcases hc with ⟨rfl, q⟩ | ⟨hp, rfl, q⟩
    · rw [mid_app (p := pre) (z := [123, 125]) rfl (by simp), ob, decide_eq_true rfl]
      exact iteT (q _ (Same.refl _))
    · have hx2 : 2 ≤ x.length := by rw [hp.length_eq]; exact hg.lo
      have hx4 : x.length ≤ 4 := by rw [hp.length_eq]; exact hg.hi
      obtain ⟨c, r, rfl⟩ : ∃ c r, x = c :: r := by
        cases x with
        | nil => cases hx2
        | cons c r => exact ⟨c, r, rfl⟩
      have hcaz := hg.az c (hp.mem_iff.mp (List.mem_cons_self ..))
      have e1 : Txt.slice (S (pre ++ ([123] ++ (c :: r) ++ [125]) ++ post)) (some (pre.length : Int)) (some ((pre.length : Int) + 2)) = S [123, c] := by
        have e : pre ++ ([123] ++ (c :: r) ++ [125]) ++ post = pre ++ [123, c] ++ (r ++ [125] ++ post) := by simp
        rw [e]
        exact mid_app rfl (by simp)
      rw [e1, ob, decide_eq_false (fun e => by
        have := S_inj (V.str.inj e)
        injection this with _ h
        injection h with h
        omega)]
      have hzg : (S gs).length ≤ sizeLine := by rw [S_len]; exact small (by have := hg.hi; omega)
      refine iteF ⟨_, rfl, _, _, rfl, rfl, _, rfl, _, rfl, hzg, _, _, rfl, rfl, ?_⟩
      have hat : (pre ++ ([123] ++ (c :: r) ++ [125]) ++ post)[pre.length]? = some 123 := by simp
      refine ⟨_, rfl, _, rfl, _, _, 123, rfl, rfl, hz, atI_nat hat, rfl, _, rfl, ?_⟩
      rw [o1, decide_eq_true rfl]
      refine iteT ?_
      have hpl := hp.length_eq
      have hll : ((S gs).length : Int) = (((c :: r).length : Nat) : Int) := by rw [S_len, hpl]
      rw [hll]
      have e2 : Txt.slice (S (pre ++ ([123] ++ (c :: r) ++ [125]) ++ post)) (some ((pre.length : Int) + 1 + (((c :: r).length : Nat) : Int))) (some ((pre.length : Int) + 1 + (((c :: r).length : Nat) : Int) + 1)) = S [125] := by
        have e : pre ++ ([123] ++ (c :: r) ++ [125]) ++ post = (pre ++ [123] ++ (c :: r)) ++ [125] ++ post := by simp
        rw [e]
        refine mid_app ?_ ?_
        · simp only [List.length_append, List.length_singleton]
          omega
        · simp only [List.length_append, List.length_singleton]
          omega
      refine ⟨_, rfl, _, rfl, _, rfl, _, rfl, _, _, rfl, rfl, _, rfl, _, rfl, hz, rfl, _, rfl, ?_⟩
      rw [e2, o2, decide_eq_true rfl]
      refine iteT ?_
      have e3 : Txt.slice (S (pre ++ ([123] ++ (c :: r) ++ [125]) ++ post)) (some ((pre.length : Int) + 1)) (some ((pre.length : Int) + 1 + (((c :: r).length : Nat) : Int))) = S (c :: r) := by
        have e : pre ++ ([123] ++ (c :: r) ++ [125]) ++ post = (pre ++ [123]) ++ (c :: r) ++ ([125] ++ post) := by simp
        rw [e]
        refine mid_app ?_ ?_
        · simp only [List.length_append, List.length_singleton]
          omega
        · simp only [List.length_append, List.length_singleton]
          omega
      have gaz : ∀ d ∈ gs, d < 128 := fun d hd => by have := hg.az d hd; omega
      refine ⟨_, rfl, _, rfl, _, rfl, _, _, rfl, rfl, _, rfl, _, rfl, _, rfl, _, rfl, hz, ?_⟩
      rw [e3]
      refine ⟨gs, c :: r, rfl, by have := hg.hi; omega, by omega, gaz, (fun d hd => gaz d (hp.mem_iff.mp hd)), fun H1 s1 => ⟨_, rfl, ?_⟩⟩
      rw [decide_eq_true hp]
      refine iteT ⟨_, rfl, _, rfl, hzg, _, _, rfl, rfl, ?_⟩
      have hgl : ((S gs).length : Int) = (gs.length : Int) := by rw [S_len]
      rw [hgl]
      exact q _ s1
abbrev sRd : Stmt := topS 33
theorem scRd : FnScope ["letters", "text", "row", "at", "width"] ["letters", "text"] (defScope sRd) := ⟨rfl, rfl, rfl, by decide +kernel, rfl, by decide +kernel, by decide +kernel⟩
theorem ok_rd {f f1 : Addr} {fd fd1 : FuncData} (F : Fun K "read_row" "read_row" sRd f fd) (ml : mg "len" = none) (c1 : Cl P w K mg base "blank_width" 2 ["letters", "text", "at"] spBw f1 fd1) (mE : ∃ t, mg "EMPTY_TEXT" = some (.str "-" t)) :
    FnOk P w K mg base CX0 3 f fd ["letters", "text"] spRd := by
  obtain ⟨tE, mE⟩ := mE
  refine F.ok scRd (fun vs H Q E h => ?_) (fun cdv A outer s H vs Q E hr h => ?_)
  · obtain ⟨gs, t, its, rfl, _⟩ := h
    rfl
  · obtain ⟨gs, t, its, rfl, hg, hl, hrd, q⟩ := h
    refine ⟨_, pss_cons (ps_if (pt_cmpR op_eq (pv 1) (pe_glob (v := .str (Str.ofString "-")) (by rfl) mE ⟨_, rfl⟩) (nomark _)) (pss_one (ps_ret (pe_lst pa_nil))) pss_nil)
      (pss_cons (ps_if (pt_cmpR op_eq (pv 1) pe_str (nomark _)) pss_never pss_nil)
      (pss_cons (ps_set (i := 2) scRd.nd rfl (.inl rfl) (pe_lst pa_nil))
      (pss_cons (ps_set (i := 3) scRd.nd rfl (.inl rfl) pe_int)
      (pss_cons (ps_while PassesOwn.never (pt_cmpR op_lt (pv 3) (pe_callB call_len_str (by rfl) ml PySem.boot_len (pa_cons (pv 1) pa_nil)) (nomark _))
        (pss_one (ps_if (pt_cmpR op_in_sign (pe_ix ix_str (pv 1) (pv 3) (fun _ _ => rfl)) (pv 0) rfl)
          (pss_cons (ps_expr (pe_bm PySem.F.plainAttrs_list PySem.F.slot_list_append PySem.F.type_list_append mt_append (pv 2) (pa_cons (pe_ix ix_str (pv 1) (pv 3) (fun _ _ => rfl)) pa_nil)))
            (pss_one (ps_set (i := 3) scRd.nd rfl (.inl rfl) (pe_op op_add (pv 3) pe_int))))
          (pss_cons (ps_set (i := 4) scRd.nd rfl (.inl rfl) (pe_cl c1 hr (by decide) (by rfl) (pa_cons (pv 0) (pa_cons (pv 1) (pa_cons (pv 3) pa_nil)))))
          (pss_cons (ps_if (pt_cmpR op_eq (pv 4) pe_int (nomark _)) pss_never pss_nil)
          (pss_cons (ps_expr (pe_bm PySem.F.plainAttrs_list PySem.F.slot_list_append PySem.F.type_list_append mt_append (pv 2) (pa_cons
            (pe_ifExp (pt_cmpR op_eq (pv 4) pe_int (nomark _)) (pv 0) (pe_slice C8.sl_txt (pv 1) (po_some (pe_op op_add (pv 3) pe_int)) (po_some (pe_op op_sub (pe_op op_add (pv 3) (pv 4)) pe_int)))) pa_nil)))
            (pss_one (ps_set (i := 3) scRd.nd rfl (.inl rfl) (pe_op op_add (pv 3) (pv 4))))))))))
      (pss_one (ps_ret (pv 2))))))), ?_⟩
    have ob : Str.ofString "-" = S [45] := by decide +kernel
    refine ⟨_, rfl, rfl, _, rfl, ?_⟩
    rw [ob]
    rcases hrd with ⟨rfl, rfl⟩ | ⟨hne, zs, hf, rfl⟩
    · rw [decide_eq_true rfl]
      refine iteT ⟨Nat.zero_le _, fun p np => ?_⟩
      exact q _ p (same_new np) np upd_same
    obtain ⟨c0, r0, hz0, hc0⟩ : ∃ c r, zs.flatten = c :: r ∧ c ≠ 45 := by
      cases hf with
      | nil => exact absurd rfl hne
      | cons h1 h2 =>
        obtain ⟨c, r, e, h⟩ := form_head hg h1
        exact ⟨c, r ++ _, by rw [List.flatten_cons, e]; rfl, h⟩
    rw [decide_eq_false (fun e => by
      have := S_inj (V.str.inj e)
      rw [hz0] at this
      exact hc0 (List.cons.inj this).1)]
    refine iteF ⟨_, rfl, rfl, _, rfl, ?_⟩
    rw [empty_S, decide_eq_false (fun e => by
      have := S_inj (V.str.inj e)
      rw [hz0] at this
      cases this)]
    refine iteF ⟨Nat.zero_le _, fun D nD => ?_⟩
    have hz : (S zs.flatten).length ≤ sizeLine := by rw [S_len]; exact small hl
    have zl : ((S zs.flatten).length : Int) = (zs.flatten.length : Int) := by rw [S_len]
    have g123 : 123 ∉ gs := fun h => by have := hg.az _ h; omega
    refine ⟨fun m σ H' => ∃ dn its' zs' pre w, its = dn ++ its' ∧ Forms gs its' zs' ∧ zs.flatten = pre ++ zs'.flatten ∧ σ = [some (tx gs), some (tx zs.flatten), some (.ref D), some (.int (pre.length : Int)), w] ∧ Same H H' ∧ H' D = some (.lst (dn.map tx)) ∧ dn.length ≤ pre.length ∧ m = its'.length,
      ⟨its.length, [], its, zs, [], none, rfl, hf, rfl, rfl, same_new nD, upd_same, Nat.le_refl _, rfl⟩, ?_⟩
    rintro m σ H' ⟨dn, its', zs', pre, w, e1, hf', e2, rfl, s1, hD, hdn, rfl⟩
    refine ⟨_, rfl, _, rfl, _, rfl, hz, _, _, rfl, rfl, _, rfl, ?_⟩
    rw [zl]
    have e2l := congrArg List.length e2
    rw [List.length_append] at e2l
    cases hf' with
    | nil =>
      rw [decide_eq_false (by rw [e2l]; show ¬ (pre.length : Int) < ((pre.length + 0 : Nat) : Int); omega)]
      refine iteF ⟨_, rfl, ?_⟩
      rw [List.append_nil] at e1
      rw [← e1] at hD
      exact q _ _ s1 nD hD
    | @cons x z its2 zs2 h1 h2 =>
      have hzn : 0 < z.length := List.length_pos_iff.mpr (form_ne h1)
      rw [List.flatten_cons] at e2 e2l
      rw [List.length_append] at e2l
      rw [decide_eq_true (by omega)]
      have e3 : zs.flatten = pre ++ z ++ zs2.flatten := by rw [e2, List.append_assoc]
      have dnl : (dn.map tx).length < sizeLine := by rw [List.length_map]; exact small1000 (by omega)
      refine iteT ⟨fun σ' H'' => ∃ w', σ' = [some (tx gs), some (tx zs.flatten), some (.ref D), some (.int ((pre ++ z).length : Int)), w'] ∧ Same H H'' ∧ H'' D = some (.lst ((dn ++ [x]).map tx)),
        fun σ' H'' ⟨w', ea, eb, ec⟩ => ⟨its2.length, by show _ < its2.length + 1; omega, dn ++ [x], its2, zs2, pre ++ z, w', by rw [e1]; simp, h2, e3, ea, eb, ec, by rw [List.length_append, List.length_append]; show _ + 1 ≤ _; omega, rfl⟩, ?_⟩
      obtain ⟨c, zr, hzc⟩ : ∃ c r, z = c :: r := by
        obtain ⟨c, r, e, _⟩ := form_head hg h1
        exact ⟨c, r, e⟩
      have hat : (zs.flatten)[pre.length]? = some c := by rw [e3, hzc]; simp
      refine ⟨_, rfl, _, rfl, _, _, c, rfl, rfl, hz, atI_nat hat, _, rfl, c, _, rfl, rfl, _, rfl, ?_⟩
      show (if decide (c ∈ gs) = true then _ else _)
      cases h1 with
      | one hc =>
        obtain ⟨rfl, _⟩ := List.cons.inj hzc
        rw [decide_eq_true hc]
        refine iteT ⟨_, rfl, .inl ⟨rfl, _, .inl (.inl hD)⟩, _, rfl, _, rfl, _, _, _, rfl, rfl, hz, atI_nat hat, D, _, _, rfl, rfl, hD, dnl, ?_⟩
        refine ⟨_, rfl, _, _, rfl, rfl, ?_⟩
        refine ⟨w, ?_, same_put s1 nD, ?_⟩
        · rw [List.length_append]
          rfl
        · rw [upd_same, List.map_append]
          rfl
      | turn hp =>
        obtain ⟨rfl, _⟩ := List.cons.inj hzc
        rw [decide_eq_false g123]
        have hxl := hp.length_eq
        have hx2 : 2 ≤ x.length := by rw [hxl]; exact hg.lo
        refine iteF ⟨_, rfl, _, rfl, _, rfl, gs, pre, zs2.flatten, x, [123] ++ x ++ [125], by rw [e3]; rfl, hg, by rw [← e3]; exact hl, .inr ⟨hp, rfl, fun H3 s3 => ?_⟩⟩
        have hD3 := s3 _ _ hD
        refine ⟨_, rfl, rfl, _, rfl, ?_⟩
        rw [decide_eq_false (fun e => by have := V.int.inj e; omega)]
        refine iteF ⟨_, rfl, .inl ⟨rfl, _, .inl (.inl hD3)⟩, _, rfl, rfl, _, rfl, ?_⟩
        rw [decide_eq_false (fun e => by have := V.int.inj e; omega)]
        refine iteF ?_
        have e4 : Txt.slice (S zs.flatten) (some ((pre.length : Int) + 1)) (some ((pre.length : Int) + ((gs.length : Int) + 2) - 1)) = S x := by
          have e : zs.flatten = (pre ++ [123]) ++ x ++ ([125] ++ zs2.flatten) := by rw [e3]; simp
          rw [e]
          refine mid_app ?_ ?_
          · simp only [List.length_append, List.length_singleton]
            omega
          · simp only [List.length_append, List.length_singleton]
            omega
        refine ⟨_, rfl, _, rfl, _, _, rfl, rfl, _, rfl, _, rfl, _, rfl, _, _, rfl, rfl, _, _, rfl, rfl, _, rfl, _, rfl, hz, D, _, _, rfl, rfl, hD3, dnl, ?_⟩
        rw [e4]
        refine ⟨_, rfl, _, rfl, _, _, rfl, rfl, ?_⟩
        refine ⟨some (.int ((gs.length : Int) + 2)), ?_, same_put (s1.trans s3) nD, ?_⟩
        · have e : ((pre ++ ([123] ++ x ++ [125])).length : Int) = (pre.length : Int) + ((gs.length : Int) + 2) := by
            simp only [List.length_append, List.length_singleton]
            omega
          rw [e]
          rfl
        · rw [upd_same, List.map_append]
          rfl
      | plain =>
        obtain ⟨rfl, _⟩ := List.cons.inj hzc
        rw [decide_eq_false g123]
        refine iteF ⟨_, rfl, _, rfl, _, rfl, gs, pre, zs2.flatten, [], [123, 125], by rw [e3]; rfl, hg, by rw [← e3]; exact hl, .inl ⟨rfl, fun H3 s3 => ?_⟩⟩
        have hD3 := s3 _ _ hD
        refine ⟨_, rfl, rfl, _, rfl, ?_⟩
        rw [decide_eq_false (fun e => by have := V.int.inj e; omega)]
        refine iteF ⟨_, rfl, .inl ⟨rfl, _, .inl (.inl hD3)⟩, _, rfl, rfl, _, rfl, ?_⟩
        rw [decide_eq_true rfl]
        refine iteT ⟨_, rfl, D, _, _, rfl, rfl, hD3, dnl, ?_⟩
        refine ⟨_, rfl, _, rfl, _, _, rfl, rfl, ?_⟩
        refine ⟨some (.int 2), ?_, same_put (s1.trans s3) nD, ?_⟩
        · have e : ((pre ++ [123, 125]).length : Int) = (pre.length : Int) + 2 := by
            simp only [List.length_append]
            rfl
          rw [e]
          rfl
        · rw [upd_same, List.map_append]
          rfl
abbrev sInitIL : Stmt := inClass (topS 3) 0
theorem scInitIL : FnScope ["self"] ["self"] (defScope sInitIL) := ⟨rfl, rfl, rfl, by decide +kernel, rfl, by decide +kernel, by decide +kernel⟩
theorem ok_initIL {f C : Addr} {fd : FuncData} (F : Fun K "__init__" "InvalidLetters.__init__" sInitIL f fd) (T : ErrC K mg "InvalidLetters" C) :
    FnOk P w K mg base CX0 1 f fd ["self"] (spI0 K C "InvalidLetters") := by
  refine F.ok scInitIL (fun vs H Q E h => ?_) (fun cdv A outer s H vs Q E hr h => ?_)
  · obtain ⟨a, rfl, _⟩ := h
    rfl
  · obtain ⟨a, rfl, ha, q⟩ := h
    refine ⟨_, pss_one (ps_ost (pv 0) pe_str), ?_⟩
    exact ⟨_, rfl, a, C, rfl, T.ox, T.nc, .inl ⟨ha, fun dx n ne => q dx n ne⟩⟩
abbrev sCheckL : Stmt := topS 23
theorem scCheckL : FnScope ["letters", "at", "letter"] ["letters"] (defScope sCheckL) :=
  ⟨rfl, rfl, rfl, by decide +kernel, rfl, by decide +kernel, by decide +kernel⟩
theorem ok_checkL {f fI C : Addr} {fd fdI : FuncData} (F : Fun K "check_letters" "check_letters" sCheckL f fd) (T : ErrC K mg "InvalidLetters" C)
    (FI : Fun K "__init__" "InvalidLetters.__init__" sInitIL fI fdI) (bI : Binds K fdI ["self"] []) (iC : PySem.W.findIn K (.ref C) "__init__" = some (some (.ref fI))) (tI : PySem.W.typeIn K (.ref fI) = some (.type "function"))
    (me : mg "enumerate" = none) (ml : mg "len" = none) (mL : ∃ t, mg "LEAST_LETTERS" = some (.int 2 t)) (mM : ∃ t, mg "MOST_LETTERS" = some (.int 4 t)) (mA : ∃ t, mg "LOWERCASE" = some (.str "abcdefghijklmnopqrstuvwxyz" t)) :
    FnOk P w K mg base (L2.CX P w) 3 f fd ["letters"] (spCL C) := by
  have GI : FnOk P w K mg base CX0 1 fI fdI ["self"] (spI0 K C "InvalidLetters") := ok_initIL FI T
  obtain ⟨tL, mL⟩ := mL
  obtain ⟨tM, mM⟩ := mM
  obtain ⟨tA, mA⟩ := mA
  refine F.okX scCheckL (fun vs H Q E h => ?_) (fun cdv A outer s H vs Q E hr h => ?_)
  · obtain ⟨cs, rfl, _⟩ := h
    rfl
  · obtain ⟨cs, rfl, hl, qv, qe⟩ := h
    refine ⟨_, pss_cons (ps_if (pt_not (pt_chain op_le op_le (pe_glob (v := .int 2) (by rfl) mL ⟨_, rfl⟩) (pe_callB call_len_str (by rfl) ml PySem.boot_len (pa_cons (pv 0) pa_nil)) (pe_glob (v := .int 4) (by rfl) mM ⟨_, rfl⟩)))
        (pss_one (ps_raise rfl (takes_of rfl rfl rfl rfl) (pmk0 T.ox iC tI GI hr bI pass0 (by rfl) T.gl))) pss_nil)
      (pss_one (ps_for (passes_of rfl) rfl (pi_enS (by rfl) me (pa_cons (pv 0) pa_nil))
        (pg_tup rfl (pgs_cons (pg_name (i := 1) scCheckL.nd rfl (.inl rfl)) (pgs_cons (pg_name (i := 2) scCheckL.nd rfl (.inl rfl)) pgs_nil)))
        (pss_one (ps_if (PW.pt (pw_or (pt_cmpR op_notIn_sign (pv 2) (pe_glob (v := .str (Str.ofString "abcdefghijklmnopqrstuvwxyz")) (by rfl) mA ⟨_, rfl⟩) rfl) (pw_or1 (pt_cmpR op_in_sign (pv 2) (pe_slice C8.sl_txt (pv 0) po_none (po_some (pv 1))) rfl))))
          (pss_one (ps_raise rfl (takes_of rfl rfl rfl rfl) (pmk0 T.ox iC tI GI hr bI pass0 (by rfl) T.gl))) pss_nil)))), ?_⟩
    have hz : (S cs).length ≤ sizeLine := by rw [S_len]; exact small hl
    -- a raise of it
    have bad : ∀ (H1 : Hp), Same H H1 → ¬ Valid cs → tMkO C (spI0 K C "InvalidLetters") [] tNil [] H1 fun cls d H' => E cls d H' := by
      intro H1 s1 hv
      refine ⟨Nat.zero_le _, fun a na => ⟨a, rfl, upd_same, fun dx nd ne => ⟨rfl, dx, _, upd_same, by rw [upd_ne ne, upd_same], ?_, ?_⟩⟩⟩
      · exact (after0 (C := C) (fs := []) na nd ne).1
      · exact qe hv _ _ (s1.trans (after0 na nd ne).2) upd_same
    have hbs : ((S cs).length : Int) = (cs.length : Int) := by rw [S_len]
    refine ⟨_, rfl, _, rfl, hz, _, _, rfl, rfl, _, rfl, ?_⟩
    rw [hbs]
    refine ite2 (fun h2 => ?_) (fun h2 => ?_)
    rotate_left
    · refine ⟨false, rfl, iteT ?_⟩
      refine bad _ (Same.refl _) fun v => h2 (decide_eq_true ?_)
      have := v.lo
      omega
    refine ⟨_, _, rfl, rfl, _, rfl, ?_⟩
    have hlo : 2 ≤ cs.length := by
      have := of_decide_eq_true h2
      omega
    by_cases h4 : cs.length ≤ 4
    rotate_left
    · have e : decide ((cs.length : Int) ≤ 4) = false := decide_eq_false (by omega)
      rw [e]
      exact iteT (bad _ (Same.refl _) fun v => h4 v.hi)
    have e : decide ((cs.length : Int) ≤ 4) = true := decide_eq_true (by omega)
    rw [e]
    refine iteF ?_
    refine ⟨_, rfl, _, rfl, for_it (walkE (z := S cs)) (fun i σ H' => ∃ v1 v2, σ = [some (.str (S cs)), v1, v2] ∧ Same H H' ∧ (∀ c ∈ cs.take i, 97 ≤ c ∧ c ≤ 122) ∧ (cs.take i).Nodup)
      ⟨none, none, rfl, Same.refl _, (fun c hc => by rw [List.take_zero] at hc; cases hc), by rw [List.take_zero]; exact List.Pairwise.nil⟩ (fun _ _ _ _ _ => trivial) ?_ ?_⟩
    · rintro i x σ H' H'' hi ⟨v1, v2, rfl, s1, haz, hnd⟩ ⟨T, c, rfl, nT, hc, rfl⟩
      have hc2 : cs[i]? = some c := by rw [← List.getElem?_toArray]; exact hc
      have s2 := s1.trans (same_new (o := .tup [.int (i : Nat), .str ⟨#[c]⟩]) nT)
      refine ⟨T, _, rfl, .inl (.inl upd_same), rfl, _, _, rfl, _, _, rfl, rfl, ?_⟩
      refine ⟨_, rfl, c, _, rfl, rfl, _, rfl, ?_⟩
      have hcm : c ∈ cs := List.mem_of_getElem? hc2
      have hil : i < cs.length := (List.getElem?_eq_some_iff.mp hc2).1
      by_cases hl2 : 97 ≤ c ∧ c ≤ 122
      rotate_left
      · have e : (!decide (c ∈ (Str.ofString "abcdefghijklmnopqrstuvwxyz").cps.toList)) = true := by
          rw [az]
          show (!decide (c ∈ List.range' 97 26)) = true
          rw [decide_eq_false fun h => hl2 (by have := List.mem_range'.mp h; omega)]
          rfl
        rw [e]
        refine iteT (iteT ?_)
        exact bad _ s2 fun v => hl2 (v.az c hcm)
      have e : (!decide (c ∈ (Str.ofString "abcdefghijklmnopqrstuvwxyz").cps.toList)) = false := by
        rw [az]
        show (!decide (c ∈ List.range' 97 26)) = false
        rw [decide_eq_true (List.mem_range'.mpr ⟨c - 97, by omega, by omega⟩)]
        rfl
      rw [e]
      refine ⟨_, rfl, _, rfl, _, rfl, _, rfl, _, rfl, hz, c, _, rfl, rfl, _, rfl, ?_⟩
      rw [slice_to (a := cs) (i := ((i : Nat) : Int)) (by omega)]
      show (if decide (c ∈ cs.take (((i : Nat) : Int).toNat)) = true then _ else _)
      rw [Int.toNat_natCast]
      have ht : cs.take (i + 1) = cs.take i ++ [c] := by rw [List.take_add_one, hc2]; rfl
      refine ite2 (fun hin => ?_) (fun hin => ?_)
      · refine bad _ s2 fun v => ?_
        have nd2 : (cs.take i ++ [c]).Nodup := by
          rw [← ht]
          exact (List.take_sublist _ _).nodup v.nd
        have := (List.nodup_append.mp nd2).2.2 c (of_decide_eq_true hin) c (List.mem_singleton.mpr rfl)
        exact this rfl
      · refine ⟨_, _, rfl, s2, ?_, ?_⟩
        · rw [ht]
          intro x hx
          rcases List.mem_append.mp hx with h | h
          · exact haz x h
          · rw [List.mem_singleton.mp h]; exact hl2
        · rw [ht]
          refine List.nodup_append.mpr ⟨hnd, by simp, fun z hz z' hz' e => ?_⟩
          rw [List.mem_singleton.mp hz'] at e
          rw [e] at hz
          exact hin (decide_eq_true hz)
    · rintro σ H' ⟨v1, v2, rfl, s1, haz, hnd⟩
      have e : cs.take (S cs).cps.size = cs := List.take_of_length_le (Nat.le_of_eq rfl)
      rw [e] at haz hnd
      exact qv ⟨hlo, h4, haz, hnd⟩ _ s1
theorem ok_checkLn {f : Addr} {fd : FuncData} (F : Fun K "check_letters" "check_letters" sCheckL f fd)
    (me : mg "enumerate" = none) (ml : mg "len" = none) (mL : ∃ t, mg "LEAST_LETTERS" = some (.int 2 t)) (mM : ∃ t, mg "MOST_LETTERS" = some (.int 4 t)) (mA : ∃ t, mg "LOWERCASE" = some (.str "abcdefghijklmnopqrstuvwxyz" t)) :
    FnOk P w K mg base CX0 1 f fd ["letters"] spCLn := by
  obtain ⟨tL, mL⟩ := mL
  obtain ⟨tM, mM⟩ := mM
  obtain ⟨tA, mA⟩ := mA
  refine F.ok scCheckL (fun vs H Q E h => ?_) (fun cdv A outer s H vs Q E hr h => ?_)
  · obtain ⟨cs, rfl, _⟩ := h
    rfl
  · obtain ⟨cs, rfl, hg, q⟩ := h
    refine ⟨_, pss_cons (ps_if (pt_not (pt_chain op_le op_le (pe_glob (v := .int 2) (by rfl) mL ⟨_, rfl⟩) (pe_callB call_len_str (by rfl) ml PySem.boot_len (pa_cons (pv 0) pa_nil)) (pe_glob (v := .int 4) (by rfl) mM ⟨_, rfl⟩)))
        pss_never pss_nil)
      (pss_one (ps_for PassesOwn.never rfl (pi_enS (by rfl) me (pa_cons (pv 0) pa_nil))
        (pg_tup rfl (pgs_cons (pg_name (i := 1) scCheckL.nd rfl (.inl rfl)) (pgs_cons (pg_name (i := 2) scCheckL.nd rfl (.inl rfl)) pgs_nil)))
        (pss_one (ps_if (PW.pt (pw_or (pt_cmpR op_notIn_sign (pv 2) (pe_glob (v := .str (Str.ofString "abcdefghijklmnopqrstuvwxyz")) (by rfl) mA ⟨_, rfl⟩) rfl) (pw_or1 (pt_cmpR op_in_sign (pv 2) (pe_slice C8.sl_txt (pv 0) po_none (po_some (pv 1))) rfl))))
          pss_never pss_nil)))), ?_⟩
    have hz : (S cs).length ≤ sizeLine := by rw [S_len]; exact small (by have := hg.hi; omega)
    have hbs : ((S cs).length : Int) = (cs.length : Int) := by rw [S_len]
    refine ⟨_, rfl, _, rfl, hz, _, _, rfl, rfl, _, rfl, ?_⟩
    rw [hbs]
    have h1 := hg.lo
    have h2 := hg.hi
    refine ite2 (fun h => ?_) (fun h => absurd (decide_eq_true (by omega)) h)
    refine ⟨_, _, rfl, rfl, _, rfl, ?_⟩
    have e : decide ((cs.length : Int) ≤ 4) = true := decide_eq_true (by omega)
    rw [e]
    refine iteF ?_
    refine ⟨_, rfl, _, rfl, for_it (walkE (z := S cs)) (fun i σ H' => ∃ v1 v2, σ = [some (.str (S cs)), v1, v2] ∧ Same H H')
      ⟨none, none, rfl, Same.refl _⟩ (fun _ _ _ _ _ => trivial) ?_ ?_⟩
    · rintro i x σ H' H'' hi ⟨v1, v2, rfl, s1⟩ ⟨T, c, rfl, nT, hc, rfl⟩
      have hc2 : cs[i]? = some c := by rw [← List.getElem?_toArray]; exact hc
      have s2 := s1.trans (same_new (o := .tup [.int (i : Nat), .str ⟨#[c]⟩]) nT)
      refine ⟨T, _, rfl, .inl (.inl upd_same), rfl, _, _, rfl, _, _, rfl, rfl, ?_⟩
      refine ⟨_, rfl, c, _, rfl, rfl, _, rfl, ?_⟩
      have hcm : c ∈ cs := List.mem_of_getElem? hc2
      have hl2 := hg.az c hcm
      have e : (!decide (c ∈ (Str.ofString "abcdefghijklmnopqrstuvwxyz").cps.toList)) = false := by
        rw [az]
        show (!decide (c ∈ List.range' 97 26)) = false
        rw [decide_eq_true (List.mem_range'.mpr ⟨c - 97, by omega, by omega⟩)]
        rfl
      rw [e]
      refine ⟨_, rfl, _, rfl, _, rfl, _, rfl, _, rfl, hz, c, _, rfl, rfl, _, rfl, ?_⟩
      rw [slice_to (a := cs) (i := ((i : Nat) : Int)) (by omega)]
      show (if decide (c ∈ cs.take (((i : Nat) : Int).toNat)) = true then _ else _)
      rw [Int.toNat_natCast]
      have ht : cs.take (i + 1) = cs.take i ++ [c] := by rw [List.take_add_one, hc2]; rfl
      refine ite2 (fun hin => ?_) (fun hin => ⟨_, _, rfl, s2⟩)
      have nd2 : (cs.take i ++ [c]).Nodup := by
        rw [← ht]
        exact (List.take_sublist _ _).nodup hg.nd
      exact absurd rfl ((List.nodup_append.mp nd2).2.2 c (of_decide_eq_true hin) c (List.mem_singleton.mpr rfl))
    · rintro σ H' ⟨v1, v2, rfl, s1⟩
      exact q _ s1
abbrev sTi : Stmt := inClass (topS 40) 0
theorem scTi : FnScope ["self", "letters", "text"] ["self", "letters", "text"] (defScope sTi) := ⟨rfl, rfl, rfl, by decide +kernel, rfl, by decide +kernel, by decide +kernel⟩
theorem ok_ti {f f1 f2 C : Addr} {fd fd1 fd2 : FuncData} (F : Fun K "__init__" "Template.__init__" sTi f fd) (T : TmC K C) (mt : mg "tuple" = none)
    (c1 : Cl P w K mg base "check_letters" 1 ["letters"] spCLn f1 fd1) (c2 : Cl P w K mg base "read_row" 3 ["letters", "text"] spRd f2 fd2) :
    FnOk P w K mg base CX0 4 f fd ["self", "letters", "text"] (spTi C) := by
  refine F.ok scTi (fun vs H Q E h => ?_) (fun cdv A outer s H vs Q E hr h => ?_)
  · obtain ⟨x, dx, gs, t, its, rfl, _⟩ := h
    rfl
  · obtain ⟨x, dx, gs, t, its, rfl, hx, hg, hl, hrd, q⟩ := h
    refine ⟨_, pss_cons (ps_expr (pe_cl c1 hr (by decide) (by rfl) (pa_cons (pv 1) pa_nil)))
      (pss_cons (ps_fld (pv 0) (pv 1) (by rfl))
      (pss_one (ps_fld (pv 0) (pe_callTy call_tuple_of (by rfl) mt (by decide +kernel) (pa_cons (pe_cl c2 hr (by decide) (by rfl) (pa_cons (pv 1) (pa_cons (pv 2) pa_nil))) pa_nil)) (by rfl)))), ?_⟩
    refine ⟨_, rfl, gs, rfl, hg, fun H1 s1 => ?_⟩
    refine ⟨_, rfl, _, rfl, x, C, dx, _, rfl, s1 _ _ hx, T.cls, T.na, (by show 0 < 1000; decide), ?_⟩
    refine ⟨_, rfl, _, rfl, gs, t, its, rfl, hg, hl, hrd, fun H2 p s2 np hp => ?_⟩
    refine ⟨p, _, rfl, .inl ⟨.inl (.inl hp), fun l nl => ?_⟩⟩
    have h2 := s2 _ _ (upd_same (H := H1) (a := x) (o := .ins C dx (putF "alphabet" (tx gs) [])))
    have nxl : x ≠ l := ne_of_none h2 nl
    refine ⟨_, rfl, x, C, dx, _, rfl, by rw [upd_ne nxl]; exact h2, T.cls, T.np, (by show 1 < 1000; decide), ?_⟩
    refine q _ (fun b o nb e => ?_) ⟨dx, l, upd_same, by rw [upd_ne nxl.symm, upd_same]⟩
    rw [upd_ne nb]
    refine same_new nl _ _ (s2 _ _ ?_)
    rw [upd_ne nb]
    exact s1 _ _ e
/-- Template(letters, text) -/
theorem tm_mk {C : Addr} {σ : L2.St} {H : Hp} {Q : VK} {ta : TA} {gs t : List Nat} {its : List (List Nat)} (h : ∀ k : List V → Hp → Prop, (∀ H1, Same H H1 → k [tx gs, tx t] H1) → ta σ H k) (hg : Good gs) (hl : t.length ≤ 1000) (hrd : Rd gs its t)
    (q : ∀ H' p, Same H H' → H p = none → Tm C H' p gs its → Q (.ref p) H') : tMake C (spTi C) [] E0 ta σ H Q := by
  refine h _ fun H1 s1 x dx nx nd ne => ?_
  refine ⟨x, dx, gs, t, its, rfl, upd_same, hg, hl, hrd, fun H2 k tm => ⟨rfl, ?_⟩⟩
  have hn : H x = none := by
    cases e : H x with
    | none => rfl
    | some o => rw [s1 _ _ e] at nx; cases nx
  refine q _ _ (fun b o e => ?_) hn tm
  have e1 := s1 _ _ e
  refine k b o (ne_of_none e1 nx) ?_
  rw [upd_ne (ne_of_none e1 nx), upd_ne (ne_of_none e1 nd)]
  exact e1
abbrev sText : Stmt := inClass (topS 40) 8
theorem scText : FnScope ["self"] ["self"] (defScope sText) := ⟨rfl, rfl, rfl, by decide +kernel, rfl, by decide +kernel, by decide +kernel⟩
theorem ok_text {f f1 C : Addr} {fd fd1 : FuncData} (F : Fun K "text" "Template.text" sText f fd) (T : TmC K C) (c1 : Cl P w K mg base "row_text" 3 ["letters", "row"] (spRt K) f1 fd1) :
    FnOk P w K mg base CX0 4 f fd ["self"] (spText C) := by
  refine F.ok scText (fun vs H Q E h => ?_) (fun cdv A outer s H vs Q E hr h => ?_)
  · obtain ⟨a, gs, its, rfl, _⟩ := h
    rfl
  · obtain ⟨a, gs, its, rfl, ⟨dx, p, ha, hp⟩, hg, hl, hx, q⟩ := h
    refine ⟨_, pss_one (ps_ret (pe_cl c1 hr (by decide) (by rfl) (pa_cons (pe_fld (pv 0) (by rfl)) (pa_cons (pe_fld (pv 0) (by rfl)) pa_nil)))), ?_⟩
    exact ⟨_, rfl, a, C, dx, _, _, rfl, ha, T.cls, T.na, rfl, _, rfl, a, C, dx, _, _, rfl, ha, T.cls, T.np, rfl, gs, p, its, rfl, hg, .inr (.inl (.inl hp)), hl, hx, q⟩
abbrev sField : Stmt := topS 129
theorem scField : FnScope ["_law_e"] ["_law_e"] (defScope sField) :=
  ⟨rfl, rfl, rfl, by decide +kernel, rfl, by decide +kernel, by decide +kernel⟩
theorem ok_field {f : Addr} {fd : FuncData} (F : Fun K "_law_field" "_law_field" sField f fd) :
    FnP P w K mg base 1 f fd ["_law_e"] (spFldN K) := by
  refine fn_ofP F scField (fun a cls d vs H Q E h => ?_) (fun cdv A outer s H vs Q a oe cls d hz hf hr h => ?_)
  · obtain ⟨code, v, rfl, _⟩ := h
    rfl
  · obtain ⟨code, v, rfl, ⟨C, dd, fs, rfl, rfl, hd, T, nc, lc, h1, h0⟩, q⟩ := h
    have hp : (a, oe) ∈ (L2H.cxH CX0 P w K mg base ["_law_e"] "_law_field" (defScope sField) f cdv A outer s H E0 (a, oe)).pn := List.mem_singleton.mpr rfl
    refine ⟨_, pss_cons (ps_if (pt_cmpR op_in_seq (pe_xg hp hz hf (pv 0)) (pe_tup (pa_cons pe_str (pa_cons pe_str pa_nil))) (by rfl)) (pss_one (ps_ret (pe_xg hp hz hf (pv 0)))) pss_nil)
      (pss_cons (ps_if (pt_cmpR op_in_seq (pe_xg hp hz hf (pv 0)) (pe_tup (pa_cons pe_str (pa_cons pe_str (pa_cons pe_str pa_nil)))) (by rfl)) (pss_one (ps_ret (pe_xg hp hz hf (pv 0)))) pss_nil)
      (pss_cons (ps_if (pt_cmpR op_in_seq (pe_xg hp hz hf (pv 0)) (pe_tup (pa_cons pe_str (pa_cons pe_str (pa_cons pe_str (pa_cons pe_str (pa_cons pe_str (pa_cons pe_str pa_nil))))))) (by rfl)) (pss_one (ps_ret (pe_xg hp hz hf (pv 0)))) pss_nil)
      (pss_cons (ps_if (pt_cmpR op_in_seq (pe_xg hp hz hf (pv 0)) (pe_tup (pa_cons pe_str (pa_cons pe_str pa_nil))) (by rfl)) (pss_one (ps_ret (pe_xg hp hz hf (pv 0)))) pss_nil)
      (pss_one (ps_ret (pe_ifExp (pt_cmpR op_eq (pe_xg hp hz hf (pv 0)) pe_str (nomark _)) (pe_xg hp hz hf (pv 0)) pe_non)))))), ?_⟩
    have s0 := Same.refl H
    refine ⟨_, rfl, rfl, C, dd, fs, _, rfl, T, nc, rfl, s0 _ _ hd, lc, (by show 2 ≤ sizeLine; decide), fun t1 n1 => ?_⟩
    have s1 := s0.trans (same_new (o := .tup fldA) n1)
    refine ⟨t1, fldA, rfl, .inr (.inl (.inl upd_same)), rfl, rfl, ?_⟩
    by_cases b1 : inV (.str code) fldA = true
    · obtain ⟨np, lp⟩ := h1 "position" (by unfold fldOf; rw [if_pos b1])
      exact ⟨true, congrArg V.bl b1, iteT ⟨_, rfl, rfl, C, dd, fs, _, rfl, T, np, rfl, s1 _ _ hd, lp, q _ s1⟩⟩
    refine ⟨false, congrArg V.bl (Bool.eq_false_iff.mpr b1), iteF ?_⟩
    refine ⟨_, rfl, rfl, C, dd, fs, _, rfl, T, nc, rfl, s1 _ _ hd, lc, (by show 3 ≤ sizeLine; decide), fun t2 n2 => ?_⟩
    have s2 := s1.trans (same_new (o := .tup fldB) n2)
    refine ⟨t2, fldB, rfl, .inr (.inl (.inl upd_same)), rfl, rfl, ?_⟩
    by_cases b2 : inV (.str code) fldB = true
    · obtain ⟨np, lp⟩ := h1 "limit" (by unfold fldOf; rw [if_neg b1, if_pos b2])
      exact ⟨true, congrArg V.bl b2, iteT ⟨_, rfl, rfl, C, dd, fs, _, rfl, T, np, rfl, s2 _ _ hd, lp, q _ s2⟩⟩
    refine ⟨false, congrArg V.bl (Bool.eq_false_iff.mpr b2), iteF ?_⟩
    refine ⟨_, rfl, rfl, C, dd, fs, _, rfl, T, nc, rfl, s2 _ _ hd, lc, (by show 6 ≤ sizeLine; decide), fun t3 n3 => ?_⟩
    have s3 := s2.trans (same_new (o := .tup fldC) n3)
    refine ⟨t3, fldC, rfl, .inr (.inl (.inl upd_same)), rfl, rfl, ?_⟩
    by_cases b3 : inV (.str code) fldC = true
    · obtain ⟨np, lp⟩ := h1 "name" (by unfold fldOf; rw [if_neg b1, if_neg b2, if_pos b3])
      exact ⟨true, congrArg V.bl b3, iteT ⟨_, rfl, rfl, C, dd, fs, _, rfl, T, np, rfl, s3 _ _ hd, lp, q _ s3⟩⟩
    refine ⟨false, congrArg V.bl (Bool.eq_false_iff.mpr b3), iteF ?_⟩
    refine ⟨_, rfl, rfl, C, dd, fs, _, rfl, T, nc, rfl, s3 _ _ hd, lc, (by show 2 ≤ sizeLine; decide), fun t4 n4 => ?_⟩
    have s4 := s3.trans (same_new (o := .tup fldD) n4)
    refine ⟨t4, fldD, rfl, .inr (.inl (.inl upd_same)), rfl, rfl, ?_⟩
    by_cases b4 : inV (.str code) fldD = true
    · obtain ⟨np, lp⟩ := h1 "index" (by unfold fldOf; rw [if_neg b1, if_neg b2, if_neg b3, if_pos b4])
      exact ⟨true, congrArg V.bl b4, iteT ⟨_, rfl, rfl, C, dd, fs, _, rfl, T, np, rfl, s4 _ _ hd, lp, q _ s4⟩⟩
    refine ⟨false, congrArg V.bl (Bool.eq_false_iff.mpr b4), iteF ?_⟩
    refine ⟨_, rfl, rfl, C, dd, fs, _, rfl, T, nc, rfl, s4 _ _ hd, lc, rfl, ?_⟩
    by_cases b5 : decide (V.str code = V.str (Str.ofString "InvalidMachine")) = true
    · obtain ⟨np, lp⟩ := h1 "room" (by unfold fldOf; rw [if_neg b1, if_neg b2, if_neg b3, if_neg b4, if_pos b5])
      exact ⟨true, congrArg V.bl b5, iteT ⟨_, rfl, rfl, C, dd, fs, _, rfl, T, np, rfl, s4 _ _ hd, lp, q _ s4⟩⟩
    · have e := h0 (by unfold fldOf; rw [if_neg b1, if_neg b2, if_neg b3, if_neg b4, if_neg b5])
      subst e
      exact ⟨false, congrArg V.bl (Bool.eq_false_iff.mpr b5), iteF (q _ s4)⟩
abbrev sTry : Stmt := topS 130
theorem scTry : FnScope ["_law_ask", "_law_e"] ["_law_ask"] (defScope sTry) :=
  ⟨rfl, rfl, rfl, by decide +kernel, rfl, by decide +kernel, by decide +kernel⟩
theorem try_gives {X : Cx} {g fF CF CM : Addr} {cdg : Value} {q : Str} {fdF : FuncData} (mF : X.mg "FillError" = some (.ref CF)) (mM : X.mg "Missing" = some (.ref CM))
    (FP : FnP X.prog X.w X.K X.mg X.base 1 fF fdF ["_law_e"] (spFldN X.K)) (gF : X.mg "_law_field" = some (.ref fF)) (kF : PySem.W.keepIn X.K (.ref fF) = true)
    (bF : Binds X.K fdF ["_law_e"] []) (hr : Room 2 X.A) :
    LamX.GivesTo X ["_law_ask", "_law_e"] "_law_try" (defScope sTry) g cdg (defBody sTry) "_law_ask" q (TryN X.K CF CM) := by
  intro f c' s H Q tl act hc h
  have hrH : L2H.RoomH 1 (X.A.deeper (envOfC "_law_try" (defScope sTry) s.heap.objs.size g cdg)) := L2H.roomH_of (hr.deeper _)
  refine ⟨_, pss_one (ps_two (X := (cxOf C8.CX0 X.prog X.w X.K X.mg X.base ["_law_ask", "_law_e"] "_law_try" (defScope sTry) g cdg X.A X.stack s H C8.E0).nox) (c1 := .ref CF) (c2 := .ref CM) (i := 1)
      (tb := fun W D σ H => ∃ Ech : XK, (∀ cls d σ' H', Ech cls d H' → W cls d σ' H') ∧ σ[0]? = some (some (.ref f)) ∧ H c' = some (LamX.CodeO c' q) ∧
        tl Ech H (fun v H1 => 2 ≤ sizeLine ∧ ∀ t, H1 t = none → D.rt (.ref t) (upd H1 t (.tup [.str (Str.ofString "value"), v]))))
      (ts := fun a cls d => tRet (tTup (tCons (tXg X.K a cls d "code" (tVar 1)) (tCons (fun σ H Q => tCons (tVar 1) tNil σ H fun vs H1 => spFldN X.K a cls d vs H1 Q E0) tNil))))
      rfl rfl scTry.nd rfl rfl (by rfl) mF (by decide) (by rfl) mM (by decide)
      (fun W pn xe tk _ => ?_)
      (fun a oe cls d pn hz hf => pss_one (ps_ret (pe_tup (pa_cons (pe_xg (X := (cxOf C8.CX0 X.prog X.w X.K X.mg X.base ["_law_ask", "_law_e"] "_law_try" (defScope sTry) g cdg X.A X.stack s H C8.E0).nox.suite a ((a, oe) :: pn)) (List.mem_cons_self ..) hz hf (pv 1))
        (pa_cons (pe_callP (X := (cxOf C8.CX0 X.prog X.w X.K X.mg X.base ["_law_ask", "_law_e"] "_law_try" (defScope sTry) g cdg X.A X.stack s H C8.E0).nox.suite a ((a, oe) :: pn)) (List.mem_cons_self ..) hz hf FP ⟨hrH.dp, hrH.un⟩ (by rfl) gF kF bF (pa_cons (pv 1) pa_nil)) pa_nil)))))), ?_⟩
  · refine ⟨fun pins s' σ H' D I h' => ?_⟩
    obtain ⟨Ech, hW, h1, h2, h3⟩ := h'
    refine (pss_one (ps_ret (pe_tup (pa_cons pe_str (pa_cons (act W pn xe Ech _ _ tk hW) pa_nil))))).run pins s' σ H' D I ⟨h1, h2, ?_⟩
    exact h3
  · refine ⟨_, fun cls d σ' H' hE => ?_, rfl, hc, h⟩
    obtain ⟨e1, code, v, ER, q⟩ := hE
    refine ⟨e1, fun a na hlen => ?_⟩
    have h1 : (σ'.set 1 (some (.ref a)))[1]? = some (some (.ref a)) := List.getElem?_set_self (by rw [hlen]; show 1 < 2; decide)
    obtain ⟨C, dd, fs, rfl, rfl, hd, T, nc, lc, hv⟩ := id ER
    refine ⟨_, h1, rfl, C, dd, fs, _, rfl, T, nc, rfl, hd, lc, _, h1, code, v, rfl, ER, fun H2 s2 => ?_⟩
    exact ⟨(by show 2 ≤ sizeLine; decide), fun t nt => q _ t s2 nt⟩
end
end Own

namespace Own
open PySem PySem.Spec PyProof.Rows L2 SX RZ
section
variable {P : Program} {w : World} {K : PySem.W.Frag} {mg : Str → Option Value} {base : Heap}
def spCan : Sp := fun vs H Q _ => ∃ gs : List Nat, ∃ b s d : Nat, vs = [tx gs, tx [b], tx [s], iv d] ∧ ∀ H', Same H H' → Q (.bl (Cnd.can gs b s d)) H'
abbrev sCan : Stmt := topS 51
abbrev canN : List Str := ["letters", "before", "sign", "depth"]
theorem scCan : FnScope canN ["letters", "before", "sign", "depth"] (defScope sCan) := ⟨rfl, rfl, rfl, by decide +kernel, rfl, by decide +kernel, by decide +kernel⟩
theorem ok_can {f : Addr} {fd : FuncData} (F : Fun K "can_stand" "can_stand" sCan f fd) :
    FnOk P w K mg base CX0 1 f fd ["letters", "before", "sign", "depth"] spCan := by
  refine F.ok scCan (fun vs H Q E h => ?_) (fun cdv A outer s H vs Q E hr h => ?_)
  · obtain ⟨gs, b, s0, d, rfl, _⟩ := h
    rfl
  · obtain ⟨gs, b, s0, d, rfl, q⟩ := h
    refine ⟨_, (pss_cons (ps_if (pt_cmpR op_eq (pv 2) pe_str (nomark _)) (pss_one (ps_ret (L2.pe_or (pe_cmpR op_in_sign (pv 1) (pv 0) (by rfl)) (pe_one (pe_cmpR op_in_seq (pv 1) (pe_tup (pa_cons pe_str (pa_cons pe_str pa_nil))) (by rfl)))))) pss_nil)
      (pss_cons (ps_if (pt_cmpR op_eq (pv 2) pe_str (nomark _)) (pss_one (ps_ret (pe_cmpR op_gt (pv 3) pe_int (nomark _)))) pss_nil)
      (pss_one (ps_ret (L2.pe_or (pe_cmpR op_in_sign (pv 2) (pv 0) (by rfl)) (pe_one (pe_cmpR op_in_seq (pv 2) (pe_tup (pa_cons pe_str (pa_cons pe_str (pa_cons pe_str pa_nil)))) (by rfl)))))))), ?_⟩
    have z2 : ∀ m n : Nat, decide (V.str (S [m]) = V.str (S [n])) = decide (m = n) := fun m n => by
      rw [dec_str]
      by_cases e : m = n <;> simp [e]
    refine ⟨_, rfl, rfl, _, rfl, ?_⟩
    rw [show V.str (Str.ofString "*") = V.str (S [42]) from rfl, z2]
    unfold Cnd.can at q
    by_cases h1 : s0 = 42
    · simp only [if_pos h1] at q
      rw [decide_eq_true h1]
      refine iteT ?_
      refine ⟨_, rfl, _, rfl, b, S gs, rfl, rfl, _, rfl, ?_⟩
      have e0 : decide (b ∈ (S gs).cps.toList) = decide (b ∈ gs) := rfl
      rw [e0]
      by_cases h2 : b ∈ gs
      · rw [decide_eq_true h2] at q ⊢
        exact iteT (q _ (Same.refl _))
      · rw [decide_eq_false h2] at q ⊢
        refine iteF ⟨_, rfl, (by show 2 ≤ sizeLine; decide), fun T nT => ?_⟩
        refine ⟨T, _, rfl, .inr (sqT upd_same), rfl, rfl, ?_⟩
        have s1 := same_new (o := .tup [V.str (Str.ofString "."), V.str (Str.ofString ")")]) nT
        have e : inV (tx [b]) [V.str (Str.ofString "."), V.str (Str.ofString ")")] = (decide (b = 46) || decide (b = 41)) := by
          rw [show [V.str (Str.ofString "."), V.str (Str.ofString ")")] = [[46], [41]].map tx from rfl, inV_tx]
          simp
        show Q (.bl (inV (tx [b]) [V.str (Str.ofString "."), V.str (Str.ofString ")")])) _
        rw [e]
        exact q _ s1
    simp only [if_neg h1] at q
    rw [decide_eq_false h1]
    refine iteF ?_
    refine ⟨_, rfl, rfl, _, rfl, ?_⟩
    rw [show V.str (Str.ofString ")") = V.str (S [41]) from rfl, z2]
    by_cases h2 : s0 = 41
    · simp only [if_pos h2] at q
      rw [decide_eq_true h2]
      refine iteT ⟨_, rfl, _, _, rfl, rfl, ?_⟩
      show Q (V.bl (decide (((0 : Nat) : Int) < ((d : Nat) : Int)))) _
      rw [dec_lt]
      exact q _ (Same.refl _)
    simp only [if_neg h2] at q
    rw [decide_eq_false h2]
    refine iteF ?_
    refine ⟨_, rfl, _, rfl, s0, S gs, rfl, rfl, _, rfl, ?_⟩
    have e0 : decide (s0 ∈ (S gs).cps.toList) = decide (s0 ∈ gs) := rfl
    rw [e0]
    by_cases h3 : s0 ∈ gs
    · rw [decide_eq_true h3] at q ⊢
      exact iteT (q _ (Same.refl _))
    rw [decide_eq_false h3] at q ⊢
    refine iteF ⟨_, rfl, (by show 3 ≤ sizeLine; decide), fun T nT => ?_⟩
    refine ⟨T, _, rfl, .inr (sqT upd_same), rfl, rfl, ?_⟩
    have s1 := same_new (o := .tup [V.str (Str.ofString "."), V.str (Str.ofString "|"), V.str (Str.ofString "(")]) nT
    have e : inV (tx [s0]) [V.str (Str.ofString "."), V.str (Str.ofString "|"), V.str (Str.ofString "(")] = (decide (s0 = 46) || (decide (s0 = 124) || decide (s0 = 40))) := by
      rw [show [V.str (Str.ofString "."), V.str (Str.ofString "|"), V.str (Str.ofString "(")] = [[46], [124], [40]].map tx from rfl, inV_tx]
      simp
    show Q (.bl (inV (tx [s0]) [V.str (Str.ofString "."), V.str (Str.ofString "|"), V.str (Str.ofString "(")])) _
    rw [e]
    exact q _ s1
end
end Own

namespace Own
open PySem PySem.Spec PyProof.Rows L2 SX RZ
section
variable {P : Program} {w : World} {K : PySem.W.Frag} {mg : Str → Option Value} {base : Heap}
def spClo : Sp := fun vs H Q _ => ∃ (xs : List Nat) (n j : Nat), vs = [tx xs, iv n] ∧ Cnd.clo 1 (xs.drop n) n = some j ∧ xs.length ≤ 100000 ∧ ∀ H', Same H H' → Q (iv j) H'
abbrev sClo : Stmt := topS 65
abbrev cloN : List Str := ["text", "at", "depth", "place"]
theorem scClo : FnScope cloN ["text", "at"] (defScope sClo) := ⟨rfl, rfl, rfl, by decide +kernel, rfl, by decide +kernel, by decide +kernel⟩
theorem ok_clo {f : Addr} {fd : FuncData} (F : Fun K "closing_place" "closing_place" sClo f fd) (m_len : mg "len" = none) (m_range : mg "range" = none) :
    FnOk P w K mg base CX0 1 f fd ["text", "at"] spClo := by
  refine F.ok scClo (fun vs H Q E h => ?_) (fun cdv A outer s H vs Q E hr h => ?_)
  · obtain ⟨xs, n, j, rfl, _⟩ := h
    rfl
  · obtain ⟨xs, n, j, rfl, hj, hl, q⟩ := h
    refine ⟨_, (pss_cons (ps_set (i := 2) scClo.nd rfl (by first | exact .inl rfl | exact .inr rfl) pe_int)
      (pss_cons (ps_for PassesOwn.never rfl (pi_range2 rfl m_range (pa_cons (pv 1) (pa_cons (pe_callB call_len_str (by rfl) m_len PySem.boot_len (pa_cons (pv 0) pa_nil)) pa_nil))) (pg_name (i := 3) scClo.nd rfl (by first | exact .inl rfl | exact .inr rfl))
        (C8.pss_cut (ps_if (pt_cmpR op_eq (pe_ix ix_str (pv 0) (pv 3) (fun _ _ => rfl)) pe_str (nomark _)) (pss_one (ps_aug (i := 2) scClo.nd rfl (by first | exact .inl rfl | exact .inr rfl) pe_int ip_add)) (pss_one (ps_if (pt_cmpR op_eq (pe_ix ix_str (pv 0) (pv 3) (fun _ _ => rfl)) pe_str (nomark _)) (pss_one (ps_aug (i := 2) scClo.nd rfl (by first | exact .inl rfl | exact .inr rfl) pe_int ip_sub)) pss_nil)))
      (pss_one (ps_if (pt_cmpR op_eq (pv 2) pe_int (nomark _)) (pss_one (ps_ret (pv 3))) pss_nil))))
      (pss_one (ps_never)))), ?_⟩
    have hz : (S xs).length ≤ sizeLine := by rw [S_len, sizeLine_eq]; omega
    have hn : n ≤ xs.length := by
      by_cases h : n ≤ xs.length
      · exact h
      · rw [List.drop_eq_nil_of_le (by omega)] at hj
        cases hj
    refine ⟨_, rfl, _, rfl, S xs, rfl, hz, _, _, rfl, by rw [S_len]; omega, ?_⟩
    rw [S_len]
    have en : (((xs.length : Nat) : Int) - ((n : Nat) : Int)).toNat = xs.length - n := by omega
    refine for_range (lo := ((n : Nat) : Int)) (n := (((xs.length : Nat) : Int) - ((n : Nat) : Int)).toNat) (fun i σ H' => ∃ (d : Nat) (v3 : Option V), σ = [some (tx xs), some (iv n), some (iv d), v3] ∧ Same H H' ∧ 0 < d ∧ Cnd.clo d (xs.drop (n + i)) (n + i) = some j) ⟨1, none, rfl, Same.refl _, Nat.one_pos, hj⟩ ?_ ?_
    · rintro i σ H' hi ⟨d, v3, rfl, s1, hd, hc⟩
      have hlt : n + i < xs.length := by omega
      have ed : xs.drop (n + i) = xs[n + i] :: xs.drop (n + i + 1) := List.drop_eq_getElem_cons hlt
      rw [ed] at hc
      have hc2 : (if Cnd.dep d xs[n + i] = 0 then some (n + i) else Cnd.clo (Cnd.dep d xs[n + i]) (xs.drop (n + i + 1)) (n + i + 1)) = some j := hc
      generalize hs : xs[n + i] = s0 at hc2
      have hat : atI xs ((n : Int) + (i : Int)) = some s0 := by
        rw [show (n : Int) + (i : Int) = ((n + i : Nat) : Int) by omega]
        exact atI_nat (by rw [List.getElem?_eq_getElem hlt, hs])
      try dsimp only [gName, tSeq, tAsg, List.set_cons_zero, List.set_cons_succ]
      have z2 : ∀ m k : Nat, decide (V.str (S [m]) = V.str (S [k])) = decide (m = k) := fun m k => by
        rw [dec_str]
        by_cases e : m = k <;> simp [e]
      refine ⟨fun σ H2 => σ = [some (tx xs), some (iv n), some (iv (Cnd.dep d s0)), some (.int ((n : Int) + (i : Int)))] ∧ Same H H2, ?_, ?_⟩
      · refine ⟨_, rfl, _, rfl, S xs, _, s0, rfl, rfl, hz, hat, rfl, _, rfl, ?_⟩
        rw [show V.str (Str.ofString "(") = V.str (S [40]) from rfl]
        show (if decide (V.str (S [s0]) = V.str (S [40])) = true then _ else _)
        rw [z2]
        unfold Cnd.dep
        by_cases h1 : s0 = 40
        · rw [decide_eq_true h1, if_pos h1]
          refine iteT ⟨_, rfl, _, _, rfl, rfl, ?_⟩
          exact ⟨rfl, s1⟩
        rw [decide_eq_false h1, if_neg h1]
        refine iteF ?_
        refine ⟨_, rfl, _, rfl, S xs, _, s0, rfl, rfl, hz, hat, rfl, _, rfl, ?_⟩
        rw [show V.str (Str.ofString ")") = V.str (S [41]) from rfl]
        show (if decide (V.str (S [s0]) = V.str (S [41])) = true then _ else _)
        rw [z2]
        by_cases h2 : s0 = 41
        · rw [decide_eq_true h2, if_pos h2]
          refine iteT ⟨_, rfl, _, _, rfl, rfl, ?_⟩
          refine ⟨?_, s1⟩
          show [some (tx xs), some (iv n), some (V.int ((d : Int) - 1)), some (V.int ((n : Int) + (i : Int)))] = _
          rw [show (d : Int) - 1 = ((d - 1 : Nat) : Int) by omega]
        · rw [decide_eq_false h2, if_neg h2]
          exact iteF ⟨rfl, s1⟩
      rintro σ H2 ⟨rfl, s2⟩
      refine ⟨_, rfl, rfl, _, rfl, ?_⟩
      have e0 : decide (V.int ((Cnd.dep d s0 : Nat) : Int) = V.int 0) = decide (Cnd.dep d s0 = 0) := by
        by_cases h : Cnd.dep d s0 = 0
        · rw [h]; rfl
        · rw [decide_eq_false h]
          exact decide_eq_false fun e => h (by injection e with e; omega)
      rw [e0]
      by_cases h : Cnd.dep d s0 = 0
      · rw [if_pos h] at hc2
        cases hc2
        rw [decide_eq_true h]
        refine iteT ⟨_, rfl, ?_⟩
        rw [show (n : Int) + (i : Int) = ((n + i : Nat) : Int) by omega]
        exact q _ s2
      · rw [if_neg h] at hc2
        rw [decide_eq_false h]
        exact iteF ⟨_, _, rfl, s2, Nat.pos_of_ne_zero h, hc2⟩
    · rintro σ H' ⟨d, v3, rfl, s1, hd, hc⟩
      rw [en, show n + (xs.length - n) = xs.length by omega, List.drop_length] at hc
      cases hc
end
end Own

namespace Own
open PySem PySem.Spec PyProof.Rows L2 SX RZ
section
variable {P : Program} {w : World} {K : PySem.W.Frag} {mg : Str → Option Value} {base : Heap}
def spTwo : Sp := fun vs H Q _ => ∃ a b : List Nat, vs = [tx (a ++ 44 :: b)] ∧ 44 ∉ a ∧ 44 ∉ b ∧ a.length + b.length ≤ 100000 ∧ ∀ H' p, Same H H' → H p = none → H' p = some (.lst [tx a, tx b]) → Q (.ref p) H'
abbrev sTwo : Stmt := topS 66
abbrev twoN : List Str := ["text", "parts"]
theorem scTwo : FnScope twoN ["text"] (defScope sTwo) := ⟨rfl, rfl, rfl, by decide +kernel, rfl, by decide +kernel, by decide +kernel⟩
theorem ok_two {f : Addr} {fd : FuncData} (F : Fun K "two_parts" "two_parts" sTwo f fd) (m_len : mg "len" = none) :
    FnOk P w K mg base CX0 1 f fd ["text"] spTwo := by
  refine F.ok scTwo (fun vs H Q E h => ?_) (fun cdv A outer s H vs Q E hr h => ?_)
  · obtain ⟨a, b, rfl, _⟩ := h
    rfl
  · obtain ⟨a, b, rfl, ha, hb, hl, q⟩ := h
    refine ⟨_, (pss_cons (ps_set (i := 1) scTwo.nd rfl (by first | exact .inl rfl | exact .inr rfl) (pe_split (pv 0) pe_str))
      (pss_cons (ps_if (pt_cmpR op_ne (pe_callB (callLenC (K := K) rfl) (by rfl) m_len PySem.boot_len (pa_cons (pv 1) pa_nil)) pe_int (nomark _)) pss_never pss_nil)
      (pss_one (ps_ret (pv 1))))), ?_⟩
    have hz : (S (a ++ 44 :: b)).length + 2 ≤ sizeLine := by
      rw [S_len, List.length_append, List.length_cons, sizeLine_eq]
      omega
    refine ⟨_, rfl, ⟨_, rfl⟩, S (a ++ 44 :: b), S [44], rfl, rfl, rfl, hz, ?_⟩
    rw [split_two ha hb (by decide)]
    intro p np
    have s1 := same_new (o := .lst [tx a, tx b]) np
    try dsimp only [gName, tSeq, tAsg, List.set_cons_zero, List.set_cons_succ]
    refine ⟨_, rfl, p, _, rfl, .inl (sqL upd_same), rfl, _, rfl, ?_⟩
    refine iteF ⟨_, rfl, q _ p s1 np upd_same⟩
end
end Own

namespace Own
open PySem PySem.Spec PyProof.Rows L2 SX RZ
section
variable {P : Program} {w : World} {K : PySem.W.Frag} {mg : Str → Option Value} {base : Heap}
def spCkp : Sp := fun vs H Q _ => ∃ gs p : List Nat, vs = [tx gs, tx p] ∧ Cnd.Pat gs p ∧ p.length ≤ 1000 ∧ ∀ H', Same H H' → Q .non H'
abbrev sCkp : Stmt := topS 52
abbrev ckpN : List Str := ["letters", "pattern", "depth", "before", "at", "sign"]
theorem scCkp : FnScope ckpN ["letters", "pattern"] (defScope sCkp) := ⟨rfl, rfl, rfl, by decide +kernel, rfl, by decide +kernel, by decide +kernel⟩
theorem ok_ckp {f : Addr} {fd : FuncData} (F : Fun K "check_pattern" "check_pattern" sCkp f fd) (m_enumerate : mg "enumerate" = none) {f1 : Addr} {fd1 : FuncData} (c1 : Cl P w K mg base "can_stand" 1 ["letters", "before", "sign", "depth"] spCan f1 fd1) :
    FnOk P w K mg base CX0 2 f fd ["letters", "pattern"] spCkp := by
  refine F.ok scCkp (fun vs H Q E h => ?_) (fun cdv A outer s H vs Q E hr h => ?_)
  · obtain ⟨gs, p, rfl, _⟩ := h
    rfl
  · obtain ⟨gs, p, rfl, hp, hl, q⟩ := h
    refine ⟨_, (pss_cons (ps_set (i := 2) scCkp.nd rfl (by first | exact .inl rfl | exact .inr rfl) pe_int)
      (pss_cons (ps_set (i := 3) scCkp.nd rfl (by first | exact .inl rfl | exact .inr rfl) pe_str)
      (pss_cons (ps_for PassesOwn.never rfl (pi_enS (by rfl) m_enumerate (pa_cons (pv 1) pa_nil)) (pg_tup rfl (pgs_cons (pg_name (i := 4) scCkp.nd rfl (by first | exact .inl rfl | exact .inr rfl)) (pgs_cons (pg_name (i := 5) scCkp.nd rfl (by first | exact .inl rfl | exact .inr rfl)) pgs_nil)))
        (pss_cons (ps_if (pt_not (pt_val (pe_cl c1 hr (by decide) (by rfl) (pa_cons (pv 0) (pa_cons (pv 3) (pa_cons (pv 5) (pa_cons (pv 2) pa_nil))))))) pss_never pss_nil)
      (C8.pss_cut (ps_if (pt_cmpR op_eq (pv 5) pe_str (nomark _)) (pss_one (ps_aug (i := 2) scCkp.nd rfl (by first | exact .inl rfl | exact .inr rfl) pe_int ip_add)) pss_nil)
      (C8.pss_cut (ps_if (pt_cmpR op_eq (pv 5) pe_str (nomark _)) (pss_one (ps_aug (i := 2) scCkp.nd rfl (by first | exact .inl rfl | exact .inr rfl) pe_int ip_sub)) pss_nil)
      (pss_one (ps_set (i := 3) scCkp.nd rfl (by first | exact .inl rfl | exact .inr rfl) (pv 5)))))))
      (pss_one (ps_if (pt_cmpR op_gt (pv 2) pe_int (nomark _)) pss_never pss_nil))))), ?_⟩
    obtain ⟨bE, hE⟩ := hp.scn 40 0
    refine ⟨_, rfl, S p, rfl, for_it (walkE (z := S p)) (fun i σ H' => ∃ (d b : Nat) (v4 v5 : Option V), σ = [some (tx gs), some (tx p), some (iv d), some (tx [b]), v4, v5] ∧ Same H H' ∧ Cnd.scan gs 40 0 (p.take i) = some (b, d))
      ⟨0, 40, none, none, rfl, Same.refl _, rfl⟩ (fun _ _ _ _ _ => trivial) ?_ ?_⟩
    · rintro i x σ H' H'' hi ⟨d, b, v4, v5, rfl, s1, hsc⟩ ⟨T, c, rfl, nT, hc, rfl⟩
      have hc2 : p[i]? = some c := by rw [← List.getElem?_toArray]; exact hc
      obtain ⟨hcan, hnext⟩ := Cnd.scan_step hE hsc hc2
      try dsimp only [gName, tSeq, tAsg, List.set_cons_zero, List.set_cons_succ]
      refine ⟨T, _, rfl, .inl (.inl upd_same), rfl, _, _, rfl, _, _, rfl, rfl, ?_⟩
      have sT := s1.trans (same_new (o := .tup [V.int ((i : Nat) : Int), V.str ⟨#[c]⟩]) nT)
      have z2 : ∀ m k : Nat, decide (V.str (S [m]) = V.str (S [k])) = decide (m = k) := fun m k => by
        rw [dec_str]
        by_cases e : m = k <;> simp [e]
      refine ⟨_, rfl, _, rfl, _, rfl, _, rfl, gs, b, c, d, rfl, fun H3 s3 => ⟨_, rfl, ?_⟩⟩
      rw [hcan]
      refine iteF ?_
      have s03 := sT.trans s3
      refine ⟨fun σ H2 => σ = [some (tx gs), some (tx p), some (iv (if c = 40 then d + 1 else d)), some (tx [b]), some (.int ((i : Nat) : Int)), some (tx [c])] ∧ Same H H2, ?_, ?_⟩
      · refine ⟨_, rfl, rfl, _, rfl, ?_⟩
        rw [show V.str (Str.ofString "(") = V.str (S [40]) from rfl]
        show (if decide (V.str (S [c]) = V.str (S [40])) = true then _ else _)
        rw [z2]
        by_cases h1 : c = 40
        · rw [decide_eq_true h1, if_pos h1]
          exact iteT ⟨_, rfl, _, _, rfl, rfl, rfl, s03⟩
        · rw [decide_eq_false h1, if_neg h1]
          exact iteF ⟨rfl, s03⟩
      rintro σ H4 ⟨rfl, s4⟩
      refine ⟨fun σ H2 => σ = [some (tx gs), some (tx p), some (iv (Cnd.dep d c)), some (tx [b]), some (.int ((i : Nat) : Int)), some (tx [c])] ∧ Same H H2, ?_, ?_⟩
      · refine ⟨_, rfl, rfl, _, rfl, ?_⟩
        rw [show V.str (Str.ofString ")") = V.str (S [41]) from rfl]
        show (if decide (V.str (S [c]) = V.str (S [41])) = true then _ else _)
        rw [z2]
        unfold Cnd.dep
        by_cases h1 : c = 41
        · have h0 : c ≠ 40 := by omega
          have hd : 0 < d := by
            unfold Cnd.can at hcan
            rw [if_neg (by omega), if_pos h1] at hcan
            exact of_decide_eq_true hcan
          rw [decide_eq_true h1, if_neg h0, if_neg h0, if_pos h1]
          refine iteT ⟨_, rfl, _, _, rfl, rfl, ?_, s4⟩
          show [some (tx gs), some (tx p), some (V.int ((d : Int) - 1)), _, _, _] = _
          rw [show (d : Int) - 1 = ((d - 1 : Nat) : Int) by omega]
        · rw [decide_eq_false h1]
          refine iteF ⟨?_, s4⟩
          by_cases h0 : c = 40
          · rw [if_pos h0, if_pos h0]
          · rw [if_neg h0, if_neg h0, if_neg h1]
      rintro σ H5 ⟨rfl, s5⟩
      exact ⟨_, rfl, _, _, _, _, rfl, s5, hnext⟩
    · rintro σ H' ⟨d, b, v4, v5, rfl, s1, hsc⟩
      have el : p.take (S p).cps.size = p := List.take_of_length_le (Nat.le_of_eq rfl)
      rw [el, hE] at hsc
      cases hsc
      refine ⟨_, rfl, _, _, rfl, rfl, _, rfl, ?_⟩
      exact iteF (q _ s1)
end
end Own

namespace Own
open PySem PySem.Spec PyProof.Rows L2 SX RZ
section
variable {P : Program} {w : World} {K : PySem.W.Frag} {mg : Str → Option Value} {base : Heap}
def spRnm : Sp := fun vs H Q _ => ∃ (xs nm z : List Nat) (n : Nat), vs = [tx xs, iv n] ∧ xs.drop n = nm ++ z ∧ n ≤ xs.length ∧ xs.length ≤ 100000 ∧ 0 < nm.length ∧ nm.length ≤ 8 ∧ (∀ c ∈ nm, 97 ≤ c ∧ c ≤ 122) ∧ (∀ c r, z = c :: r → ¬ (97 ≤ c ∧ c ≤ 122)) ∧ ∀ H' p, Same H H' → H p = none → H' p = some (.tup [tx nm, iv (n + nm.length)]) → Q (.ref p) H'
abbrev sRnm : Stmt := topS 63
abbrev rnmN : List Str := ["text", "at", "end"]
theorem scRnm : FnScope rnmN ["text", "at"] (defScope sRnm) := ⟨rfl, rfl, rfl, by decide +kernel, rfl, by decide +kernel, by decide +kernel⟩
theorem ok_rnm {f : Addr} {fd : FuncData} (F : Fun K "read_name" "read_name" sRnm f fd) (m_len : mg "len" = none) (gLo : ∃ t, mg "LOWERCASE" = some (.str (Str.ofString "abcdefghijklmnopqrstuvwxyz") t)) (gMN : ∃ t, mg "MOST_NAME" = some (.int 8 t)) :
    FnOk P w K mg base CX0 1 f fd ["text", "at"] spRnm := by
  refine F.ok scRnm (fun vs H Q E h => ?_) (fun cdv A outer s H vs Q E hr h => ?_)
  · obtain ⟨xs, nm, z, n, rfl, _⟩ := h
    rfl
  · obtain ⟨xs, nm, z, n, rfl, hd, hn, hl, h0, h8, hnm, hz, q⟩ := h
    obtain ⟨tLo, eLo⟩ := gLo
    obtain ⟨tMN, eMN⟩ := gMN
    refine ⟨_, (pss_cons (ps_set (i := 2) scRnm.nd rfl (by first | exact .inl rfl | exact .inr rfl) (pv 1))
      (pss_cons (ps_while PassesOwn.never (PW.pt (pw_and (pt_cmpR op_lt (pv 2) (pe_callB call_len_str (by rfl) m_len PySem.boot_len (pa_cons (pv 0) pa_nil)) (nomark _)) (pw_and1 (pt_cmpR op_in_sign (pe_ix ix_str (pv 0) (pv 2) (fun _ _ => rfl)) (pe_glob (v := .str (Str.ofString "abcdefghijklmnopqrstuvwxyz")) (by rfl) eLo ⟨_, rfl⟩) (by rfl)))))
        (pss_one (ps_aug (i := 2) scRnm.nd rfl (by first | exact .inl rfl | exact .inr rfl) pe_int ip_add)))
      (pss_cons (ps_if (pt_not (pt_chain op_le op_le pe_int (pe_op op_sub (pv 2) (pv 1)) (pe_glob (v := .int 8) (by rfl) eMN ⟨_, rfl⟩))) pss_never pss_nil)
      (pss_one (ps_ret (pe_tup (pa_cons (pe_slice sl_str (pv 0) (po_some (pv 1)) (po_some (pv 2))) (pa_cons (pv 2) pa_nil)))))))), ?_⟩
    have hz' : (S xs).length ≤ sizeLine := by rw [S_len, sizeLine_eq]; omega
    have hlen : xs.length = n + (nm.length + z.length) := by
      have := congrArg List.length hd
      rw [List.length_drop, List.length_append] at this
      omega
    have hat : ∀ k, k < nm.length → ∃ c, xs[n + k]? = some c ∧ 97 ≤ c ∧ c ≤ 122 := fun k hk => by
      have e : xs[n + k]? = (nm ++ z)[k]? := by rw [← hd, List.getElem?_drop]
      rw [List.getElem?_append_left hk] at e
      exact ⟨_, e.trans (List.getElem?_eq_getElem hk), hnm _ (List.getElem_mem hk)⟩
    have hend : ∀ c, xs[n + nm.length]? = some c → ¬ (97 ≤ c ∧ c ≤ 122) := fun c hc => by
      have e : xs[n + nm.length]? = (nm ++ z)[nm.length]? := by rw [← hd, List.getElem?_drop]
      rw [List.getElem?_append_right (Nat.le_refl _), Nat.sub_self] at e
      rw [e] at hc
      cases z with
      | nil => cases hc
      | cons x r => cases hc; exact hz _ _ rfl
    have lower : ∀ c : Nat, decide (c ∈ (Str.ofString "abcdefghijklmnopqrstuvwxyz").cps.toList) = decide (97 ≤ c ∧ c ≤ 122) := fun c => by
      have e : (Str.ofString "abcdefghijklmnopqrstuvwxyz").cps.toList = List.range' 97 26 := by decide +kernel
      rw [e]
      by_cases h : 97 ≤ c ∧ c ≤ 122
      · rw [decide_eq_true h]
        exact decide_eq_true (List.mem_range'_1.mpr (by omega))
      · rw [decide_eq_false h]
        exact decide_eq_false fun m => h (by have := List.mem_range'_1.mp m; omega)
    refine ⟨_, rfl, ?_⟩
    show tWhile _ _ _ [some (tx xs), some (iv n), some (iv n)] H
    refine ⟨fun m σ H' => ∃ k, σ = [some (tx xs), some (iv n), some (iv (n + k))] ∧ k ≤ nm.length ∧ m = nm.length - k ∧ Same H H', ⟨_, 0, rfl, Nat.zero_le _, rfl, Same.refl _⟩, ?_⟩
    rintro m σ H1 ⟨k, rfl, hk, rfl, s1⟩
    refine ⟨_, rfl, _, rfl, S xs, rfl, hz', _, _, rfl, rfl, _, rfl, ?_⟩
    rw [S_len, dec_lt]
    have done' : k = nm.length → tSeq
        (tIfS
          (tNot
            (tTest
              (tChain (rI0 fun i j => V.bl (decide (i ≤ j))) (rI0 fun i j => V.bl (decide (i ≤ j))) (tC (V.int 1))
                (tOp (rI0 fun i j => V.int (i - j)) (tVar 2) (tVar 1)) (tC (V.int 8)))))
          tNever tNext)
        (tRet (tTup (tCons (tSl rSlS (tVar 0) (tPart (tVar 1)) (tPart (tVar 2))) (tCons (tVar 2) tNil)))) { nx := fun x H' => Q V.non H', rt := Q } [some (tx xs), some (iv n), some (iv (n + k))] H1 := fun e => by
      subst e
      refine ⟨_, rfl, _, rfl, _, _, rfl, rfl, _, _, rfl, rfl, _, rfl, ?_⟩
      rw [decide_eq_true (show (1 : Int) ≤ ((n + nm.length : Nat) : Int) - ((n : Nat) : Int) by omega)]
      refine iteT ⟨_, _, rfl, rfl, _, rfl, ?_⟩
      rw [decide_eq_true (show ((n + nm.length : Nat) : Int) - ((n : Nat) : Int) ≤ 8 by omega)]
      refine iteF ⟨_, rfl, _, rfl, _, rfl, _, rfl, _, rfl, S xs, rfl, hz', _, rfl, (by show 2 ≤ sizeLine; decide), fun T nT => ?_⟩
      have ec : cutS (S xs) (some ((n : Nat) : Int)) (some ((n + nm.length : Nat) : Int)) = S nm := by
        unfold cutS
        rw [S_len, HT.sIx_nat, HT.sIx_nat, Nat.min_eq_left (by omega), Nat.min_eq_left (by omega)]
        show (⟨_⟩ : Str) = ⟨_⟩
        congr 2
        show (xs.drop n).take (n + nm.length - n) = nm
        rw [hd, show n + nm.length - n = nm.length by omega, List.take_left]
      rw [ec]
      exact q _ T (s1.trans (same_new nT)) (none_of s1 nT) upd_same
    by_cases h : n + k < xs.length
    rotate_left
    · rw [decide_eq_false h]
      exact iteF (done' (by omega))
    rw [decide_eq_true h]
    obtain ⟨c, hc⟩ : ∃ c, xs[n + k]? = some c := ⟨_, List.getElem?_eq_getElem h⟩
    refine iteT ⟨_, rfl, _, rfl, S xs, _, c, rfl, rfl, hz', atI_nat hc, c, _, rfl, rfl, _, rfl, ?_⟩
    rw [lower]
    by_cases hk2 : k < nm.length
    · obtain ⟨c', hc', hl'⟩ := hat k hk2
      rw [hc] at hc'
      cases hc'
      rw [decide_eq_true hl']
      refine iteT ⟨fun σ H' => ∃ k', σ = [some (tx xs), some (iv n), some (iv (n + k'))] ∧ k' ≤ nm.length ∧ k' = k + 1 ∧ Same H H', ?_, ?_⟩
      · rintro σ' H' ⟨k', rfl, h1, rfl, s2⟩
        exact ⟨_, by omega, _, rfl, h1, rfl, s2⟩
      · refine ⟨_, rfl, _, _, rfl, rfl, k + 1, ?_, by omega, rfl, s1⟩
        show [some (tx xs), some (iv n), some (V.int (((n + k : Nat) : Int) + 1))] = _
        rw [show ((n + k : Nat) : Int) + 1 = ((n + (k + 1) : Nat) : Int) by omega]
    · have ek : k = nm.length := by omega
      subst ek
      rw [decide_eq_false (hend c hc)]
      exact iteF (done' rfl)
end
end Own

namespace Own
open PySem PySem.Spec PyProof.Rows L2 SX RZ
section
variable {P : Program} {w : World} {K : PySem.W.Frag} {mg : Str → Option Value} {base : Heap}
def spTtx : Sp := fun vs H Q _ => ∃ (gs t : List Nat) (i : List (List Nat)), vs = [tx gs, tx t] ∧ Good gs ∧ Row gs i ∧ i.length ≤ 100 ∧ Rd gs i t ∧ t.length ≤ 1000 ∧ ∀ H', Same H H' → Q (tx (rTx gs i)) H'
abbrev sTtx : Stmt := topS 64
abbrev ttxN : List Str := ["letters", "text"]
theorem scTtx : FnScope ttxN ["letters", "text"] (defScope sTtx) := ⟨rfl, rfl, rfl, by decide +kernel, rfl, by decide +kernel, by decide +kernel⟩
theorem ok_ttx {f : Addr} {fd : FuncData} (F : Fun K "template_text" "template_text" sTtx f fd) {fI fT C : Addr} {fdI fdT : FuncData} (T : TmC K C) (M : Mk K C fI) (gC : mg "Template" = some (.ref C)) (GI : FnOk P w K mg base CX0 4 fI fdI ["self", "letters", "text"] (spTi C)) (bI : Binds K fdI ["self", "letters", "text"] []) (mT : Meth K C "text" fT) (GT : FnOk P w K mg base CX0 4 fT fdT ["self"] (spText C)) (bT : Binds K fdT ["self"] []) :
    FnOk P w K mg base CX0 6 f fd ["letters", "text"] spTtx := by
  refine F.ok scTtx (fun vs H Q E h => ?_) (fun cdv A outer s H vs Q E hr h => ?_)
  · obtain ⟨gs, t, i, rfl, _⟩ := h
    rfl
  · obtain ⟨gs, t, i, rfl, hg, hi, li, rd, lt, q⟩ := h
    refine ⟨_, (pss_one (ps_try_thru0 (pss_one (ps_ret (pe_meth0 (pe_make M GI (hr.mono (by decide)) (by rfl) gC bI .nil pass0 (pa_cons (pv 0) (pa_cons (pv 1) pa_nil))) T.cls mT GT (hr.mono (by decide)) bT .nil pass0))))), ?_⟩
    dsimp only [tRet, tMeth]
    refine tm_mk (gs := gs) (t := t) (its := i) (fun k hk => ?_) hg lt rd fun H1 p s1 np tm => ?_
    · exact ⟨_, rfl, _, rfl, hk _ (Same.refl _)⟩
    obtain ⟨dx, pp, hp, _⟩ := id tm
    have := hg.hi
    refine ⟨p, dx, _, rfl, hp, rfl, p, gs, i, rfl, tm, by omega, by omega, (fun x hx => by have := row_len hg hi x hx; omega), fun H2 s2 => q H2 (s1.trans s2)⟩
end
end Own

namespace Own
open PySem PySem.Spec PyProof.Rows L2 SX RZ
section
variable {P : Program} {w : World} {K : PySem.W.Frag} {mg : Str → Option Value} {base : Heap}
def spMof : Sp := fun vs H Q _ => ∃ gs p : List Nat, vs = [tx gs, tx p] ∧ Cnd.Pat gs p ∧ p.length ≤ 1000 ∧ ∀ H' a, Same H H' → H a = none → H' a = some (.tup [.str (Str.ofString "match"), tx p]) → Q (.ref a) H'
abbrev sMof : Stmt := topS 67
abbrev mofN : List Str := ["letters", "text"]
theorem scMof : FnScope mofN ["letters", "text"] (defScope sMof) := ⟨rfl, rfl, rfl, by decide +kernel, rfl, by decide +kernel, by decide +kernel⟩
theorem ok_mof {f : Addr} {fd : FuncData} (F : Fun K "match_of" "match_of" sMof f fd) {f1 : Addr} {fd1 : FuncData} (c1 : Cl P w K mg base "check_pattern" 2 ["letters", "pattern"] spCkp f1 fd1) :
    FnOk P w K mg base CX0 3 f fd ["letters", "text"] spMof := by
  refine F.ok scMof (fun vs H Q E h => ?_) (fun cdv A outer s H vs Q E hr h => ?_)
  · obtain ⟨gs, p, rfl, _⟩ := h
    rfl
  · obtain ⟨gs, p, rfl, hp, hl, q⟩ := h
    refine ⟨_, (pss_cons (ps_try_thru0 (pss_one (ps_expr (pe_cl c1 hr (by decide) (by rfl) (pa_cons (pv 0) (pa_cons (pv 1) pa_nil))))))
      (pss_one (ps_ret (pe_tup (pa_cons pe_str (pa_cons (pv 1) pa_nil)))))), ?_⟩
    refine ⟨_, rfl, _, rfl, gs, p, rfl, hp, hl, fun H1 s1 => ?_⟩
    refine ⟨_, rfl, (by show 2 ≤ sizeLine; decide), fun a na => ?_⟩
    exact q _ a (s1.trans (same_new na)) (none_of s1 na) upd_same
end
end Own

namespace Own
open PySem PySem.Spec PyProof.Rows L2 SX RZ
section
variable {P : Program} {w : World} {K : PySem.W.Frag} {mg : Str → Option Value} {base : Heap}
def spTof : Sp := fun vs H Q _ => ∃ (gs a b : List Nat) (k : Nat) (i j : List (List Nat)), vs = [tx gs, .str (kwS k), tx (a ++ 44 :: b)] ∧ Good gs ∧ Row gs i ∧ Row gs j ∧ i.length ≤ 100 ∧ j.length ≤ 100 ∧ Rd gs i a ∧ Rd gs j b ∧ a.length ≤ 1000 ∧ b.length ≤ 1000 ∧ (∀ c ∈ a, c ≠ 40 ∧ c ≠ 41 ∧ c ≠ 44) ∧ (∀ c ∈ b, c ≠ 40 ∧ c ≠ 41 ∧ c ≠ 44) ∧ ∀ H' p, Same H H' → H p = none → H' p = some (.tup [.str (kwS k), tx (rTx gs i), tx (rTx gs j)]) → Q (.ref p) H'
abbrev sTof : Stmt := topS 69
abbrev tofN : List Str := ["letters", "kind", "text", "one", "other"]
theorem scTof : FnScope tofN ["letters", "kind", "text"] (defScope sTof) := ⟨rfl, rfl, rfl, by decide +kernel, rfl, by decide +kernel, by decide +kernel⟩
theorem ok_tof {f : Addr} {fd : FuncData} (F : Fun K "templates_of" "templates_of" sTof f fd) {f1 : Addr} {fd1 : FuncData} (c1 : Cl P w K mg base "two_parts" 1 ["text"] spTwo f1 fd1) {f2 : Addr} {fd2 : FuncData} (c2 : Cl P w K mg base "template_text" 6 ["letters", "text"] spTtx f2 fd2) :
    FnOk P w K mg base CX0 7 f fd ["letters", "kind", "text"] spTof := by
  refine F.ok scTof (fun vs H Q E h => ?_) (fun cdv A outer s H vs Q E hr h => ?_)
  · obtain ⟨gs, a, b, k, i, j, rfl, _⟩ := h
    rfl
  · obtain ⟨gs, a, b, k, i, j, rfl, hg, hi, hj, li, lj, ra, rb, la, lb, sa, sb, q⟩ := h
    refine ⟨_, (pss_cons (ps_asg (pe_cl c1 hr (by decide) (by rfl) (pa_cons (pv 2) pa_nil)) (pg_lst rfl (pgs_cons (pg_name (i := 3) scTof.nd rfl (by first | exact .inl rfl | exact .inr rfl)) (pgs_cons (pg_name (i := 4) scTof.nd rfl (by first | exact .inl rfl | exact .inr rfl)) pgs_nil))))
      (pss_one (ps_ret (pe_tup (pa_cons (pv 1) (pa_cons (pe_cl c2 hr (by decide) (by rfl) (pa_cons (pv 0) (pa_cons (pv 3) pa_nil))) (pa_cons (pe_cl c2 hr (by decide) (by rfl) (pa_cons (pv 0) (pa_cons (pv 4) pa_nil))) pa_nil))))))), ?_⟩
    refine ⟨_, rfl, a, b, rfl, (fun h => (sa _ h).2.2 rfl), (fun h => (sb _ h).2.2 rfl), by omega, fun H1 p s1 np hp => ?_⟩
    refine ⟨p, _, rfl, sqL hp, rfl, _, _, rfl, _, _, rfl, rfl, ?_⟩
    try dsimp only [gName, tSeq, tAsg, List.set_cons_zero, List.set_cons_succ]
    refine ⟨_, rfl, _, rfl, _, rfl, gs, a, i, rfl, hg, hi, li, ra, la, fun H2 s2 => ?_⟩
    refine ⟨_, rfl, _, rfl, gs, b, j, rfl, hg, hj, lj, rb, lb, fun H3 s3 => ⟨(by show 3 ≤ sizeLine; decide), fun T nT => ?_⟩⟩
    have s13 := s1.trans (s2.trans s3)
    exact q _ T (s13.trans (same_new nT)) (none_of s13 nT) upd_same
end
end Own

namespace Own
open PySem PySem.Spec PyProof.Rows L2 SX RZ
section
variable {P : Program} {w : World} {K : PySem.W.Frag} {mg : Str → Option Value} {base : Heap}
abbrev nmK (n : Nat) : List (L2.Key × V) := (List.range n).map fun k => (Sum.inr (S (Cnd.dec k)), iv k)
theorem nm_new : ∀ i, i ≤ 60 → (valV (nmK i) (Sum.inr (S (Cnd.dec i)))) = none := by
  have h : ∀ i, i ≤ 60 → (valV (nmK i) (Sum.inr (S (Cnd.dec i)))).isNone = true := by decide +kernel
  exact fun i hi => Option.isNone_iff_eq_none.mp (h i hi)
theorem nm_at : ∀ r, r ≤ 60 → valV (nmK 61) (Sum.inr (S (Cnd.dec r))) = some (iv r) := by decide +kernel
def spLof : Sp := fun vs H Q _ => ∃ r m : Nat, vs = [tx (Cnd.dec r ++ 44 :: Cnd.dec m)] ∧ r < m ∧ m ≤ 60 ∧ ∀ H' a, Same H H' → H a = none → H' a = some (.tup [.str (Str.ofString "length"), iv r, iv m]) → Q (.ref a) H'
abbrev sLof : Stmt := topS 68
abbrev lofN : List Str := ["text", "numbers", "one", "other", "number"]
theorem scLof : FnScope lofN ["text"] (defScope sLof) := ⟨rfl, rfl, rfl, by decide +kernel, rfl, by decide +kernel, by decide +kernel⟩
theorem ok_lof {f : Addr} {fd : FuncData} (F : Fun K "length_of" "length_of" sLof f fd) {f1 : Addr} {fd1 : FuncData} (c1 : Cl P w K mg base "two_parts" 1 ["text"] spTwo f1 fd1) (gMM : ∃ t, mg "MOST_MODULUS" = some (.int 60 t)) (m_range : mg "range" = none) (m_str : mg "str" = none) :
    FnOk P w K mg base CX0 2 f fd ["text"] spLof := by
  refine F.ok scLof (fun vs H Q E h => ?_) (fun cdv A outer s H vs Q E hr h => ?_)
  · obtain ⟨r, m, rfl, _⟩ := h
    rfl
  · obtain ⟨r, m, rfl, hrm, hm, q⟩ := h
    have hu := hu_of hr
    obtain ⟨tMM, eMM⟩ := gMM
    refine ⟨_, (pss_cons (ps_setDc (i := 1) (own := [("number", 4)]) (g := gName 4) (tt := tYes) (tv := tVar 4) rfl scLof.nd rfl rfl (sw_trueD rfl rfl rfl (by decide +kernel)) (pi_range1 rfl m_range (pa_cons (pe_op op_add (pe_glob (v := .int 60) (by rfl) eMM ⟨_, rfl⟩) pe_int) pa_nil)) (blkOk_by (N := lofN) (sc := defScope sLof) (by decide +kernel)) (fun _ _ _ _ _ => pg_name (i := 4) scLof.nd rfl (Or.inl rfl)) (fun _ _ _ _ _ => pts_nil) (fun _ _ _ _ _ => pe_callTy call_str_int (by rfl) m_str (by decide +kernel) (pa_cons (pv 4) pa_nil)) (fun _ _ _ _ _ => pv 4))
      (pss_cons (ps_asg (pe_cl c1 hr (by decide) (by rfl) (pa_cons (pv 0) pa_nil)) (pg_lst rfl (pgs_cons (pg_name (i := 2) scLof.nd rfl (by first | exact .inl rfl | exact .inr rfl)) (pgs_cons (pg_name (i := 3) scLof.nd rfl (by first | exact .inl rfl | exact .inr rfl)) pgs_nil))))
      (pss_cons (ps_if (PW.pt (pw_or (pt_cmp (pc_dnotin hu (pv 2) (pv 1))) (pw_or (pt_cmp (pc_dnotin hu (pv 3) (pv 1))) (pw_or1 (pt_cmpR op_ge (pe_dget hu (pv 1) (pv 2) (fun _ _ => rfl)) (pe_dget hu (pv 1) (pv 3) (fun _ _ => rfl)) (nomark _)))))) pss_never pss_nil)
      (pss_one (ps_ret (pe_tup (pa_cons pe_str (pa_cons (pe_dget hu (pv 1) (pv 2) (fun _ _ => rfl)) (pa_cons (pe_dget hu (pv 1) (pv 3) (fun _ _ => rfl)) pa_nil))))))))), ?_⟩
    refine ⟨_, _, rfl, rfl, 61, rfl, by decide, by decide, fun D nD => ?_⟩
    refine dc_it (walk_range (lo := 0) (n := (61 : Int).toNat)) (fun i H' => Same H H' ∧ H' D = some (.dK (nmK i))) ⟨same_new nD, upd_same⟩ (fun _ _ _ _ => trivial) ?_ ?_
    · rintro i x H1 H2 hi ⟨s1, hD⟩ ⟨rfl, rfl⟩
      have hi' : i < 61 := hi
      have en : (0 : Int) + (i : Int) = ((i : Nat) : Int) := by omega
      have hl0 : (nmK i).length = i := by rw [List.length_map, List.length_range]
      have hlog : ∀ i : Nat, i < 61 → ((i : Nat) : Int).natAbs.log2 < 1920 := fun i hi => by
        have : i.log2 < 6 := by
          by_cases z : i = 0
          · subst z; decide
          · exact (Nat.log2_lt z).mpr (by omega)
        show i.log2 < 1920
        omega
      refine ⟨rfl, ⟨_, rfl, (0 : Int) + (i : Int), rfl, by rw [en]; exact hlog i hi', ?_⟩⟩
      have et : (V.str (Str.ofString (toString ((0 : Int) + (i : Int))))) = kV (Sum.inr (S (Cnd.dec i))) := by
        rw [en]
        exact congrArg V.str (dec_to i (by omega))
      refine ⟨_, rfl, nmK i, Sum.inr (S (Cnd.dec i)), et, hD, small1000 (by omega), same_put s1 nD, ?_⟩
      rw [upd_same, putK_new _ (nm_new i (by omega))]
      show some (HO.dK (nmK i ++ [(Sum.inr (S (Cnd.dec i)), V.int ((0 : Int) + (i : Int)))])) = some (HO.dK (nmK (i + 1)))
      rw [en]
      show some (HO.dK (nmK i ++ [_])) = some (HO.dK (nmK (i + 1)))
      congr 2
      show _ = (List.range (i + 1)).map _
      rw [List.range_succ, List.map_append]
      rfl
    rintro H1 ⟨s1, hD⟩
    try dsimp only [gName, tSeq, tAsg, List.set_cons_zero, List.set_cons_succ]
    have ha : ∀ k, k ≤ 60 → ∀ c ∈ Cnd.dec k, c ≠ 44 := fun k hk c hc => by have := dec_no k hk c hc; omega
    have hl : ∀ k, k ≤ 60 → (Cnd.dec k).length ≤ 2 := by decide
    have l1 := hl r (by omega)
    have l2 := hl m hm
    refine ⟨_, rfl, Cnd.dec r, Cnd.dec m, rfl, (fun h => ha r (by omega) _ h rfl), (fun h => ha m hm _ h rfl), by omega, fun H2 p s2 np hp => ?_⟩
    refine ⟨p, _, rfl, sqL hp, rfl, _, _, rfl, _, _, rfl, rfl, ?_⟩
    have hD2 := s2 _ _ hD
    have g1 : DGet H2 D (tx (Cnd.dec r)) (some (iv r)) := by
      rw [← nm_at r (by omega)]
      exact DGet.k (k := Sum.inr (S (Cnd.dec r))) hD2
    have g2 : DGet H2 D (tx (Cnd.dec m)) (some (iv m)) := by
      rw [← nm_at m hm]
      exact DGet.k (k := Sum.inr (S (Cnd.dec m))) hD2
    try dsimp only [gName, tSeq, tAsg, List.set_cons_zero, List.set_cons_succ]
    refine ⟨_, rfl, _, rfl, D, _, rfl, g1, _, rfl, iteF ?_⟩
    refine ⟨_, rfl, _, rfl, D, _, rfl, g2, _, rfl, iteF ?_⟩
    refine ⟨_, rfl, _, rfl, D, _, rfl, g1, _, rfl, _, rfl, D, _, rfl, g2, _, _, rfl, rfl, _, rfl, ?_⟩
    rw [decide_eq_false (by omega)]
    refine iteF ?_
    refine ⟨_, rfl, _, rfl, D, _, rfl, g1, _, rfl, _, rfl, D, _, rfl, g2, (by show 3 ≤ sizeLine; decide), fun T nT => ?_⟩
    have s12 := s1.trans s2
    exact q _ T (s12.trans (same_new nT)) (none_of s12 nT) upd_same
end
end Own

namespace Own
open PySem PySem.Spec PyProof.Rows L2 SX RZ
section
variable {P : Program} {w : World} {K : PySem.W.Frag} {mg : Str → Option Value} {base : Heap}
def spRsm : Sp := fun vs H Q _ => ∃ (gs xs z : List Nat) (n : Nat) (c : Cnd.Cd), vs = [tx gs, tx xs, iv n] ∧ Good gs ∧ xs.drop n = Cnd.cTx c ++ z ∧ n ≤ xs.length ∧ xs.length ≤ 100000 ∧ Cnd.leaf c = true ∧ OkS gs c ∧ (∀ d r, z = d :: r → ¬ (97 ≤ d ∧ d ≤ 122)) ∧
  ∀ H' p v, Same H H' → H p = none → H' p = some (.tup [v, iv (n + (Cnd.cTx c).length)]) → CdH H' c v → Q (.ref p) H'
abbrev sRsm : Stmt := topS 70
abbrev rsmN : List Str := ["letters", "text", "at", "name", "end", "kind", "start", "inner"]
theorem scRsm : FnScope rsmN ["letters", "text", "at"] (defScope sRsm) := ⟨rfl, rfl, rfl, by decide +kernel, rfl, by decide +kernel, by decide +kernel⟩
theorem ok_rsm {f : Addr} {fd : FuncData} (F : Fun K "read_simple" "read_simple" sRsm f fd) (m_len : mg "len" = none) {f1 : Addr} {fd1 : FuncData} (c1 : Cl P w K mg base "read_name" 1 ["text", "at"] spRnm f1 fd1) {f2 : Addr} {fd2 : FuncData} (c2 : Cl P w K mg base "closing_place" 1 ["text", "at"] spClo f2 fd2) {f3 : Addr} {fd3 : FuncData} (c3 : Cl P w K mg base "match_of" 3 ["letters", "text"] spMof f3 fd3) {f4 : Addr} {fd4 : FuncData} (c4 : Cl P w K mg base "length_of" 2 ["text"] spLof f4 fd4) {f5 : Addr} {fd5 : FuncData} (c5 : Cl P w K mg base "templates_of" 7 ["letters", "kind", "text"] spTof f5 fd5) {HW : Addr} {esW : Array DictEntry} {nW : Nat} (gH : mg "HOLDING_WORDS" = some (.ref HW)) (DW : KDict K w HW esW nW) (kW : ∀ k, k ≤ 3 → ∃ u, PySem.W.nsIn K HW (kwS k) = some (some u)) :
    FnOk P w K mg base CX0 8 f fd ["letters", "text", "at"] spRsm := by
  refine F.ok scRsm (fun vs H Q E h => ?_) (fun cdv A outer s H vs Q E hr h => ?_)
  · obtain ⟨gs, xs, z, n, c, rfl, _⟩ := h
    rfl
  · obtain ⟨gs, xs, z, n, c, rfl, hg, hd, hn, hl, hlf, hok, hz, q⟩ := h
    refine ⟨_, (pss_cons (ps_if (pt_val (pe_bm PySem.F.plainAttrs_str PySem.F.slot_str_startswith PySem.F.type_str_startswith mt_startswith3 (pv 1) (pa_cons pe_str (pa_cons (pv 2) pa_nil)))) (pss_cons (ps_asg (pe_cl c1 hr (by decide) (by rfl) (pa_cons (pv 1) (pa_cons (pe_op op_add (pv 2) (pe_callB call_len_str (by rfl) m_len PySem.boot_len (pa_cons pe_str pa_nil))) pa_nil))) (pg_tup rfl (pgs_cons (pg_name (i := 3) scRsm.nd rfl (by first | exact .inl rfl | exact .inr rfl)) (pgs_cons (pg_name (i := 4) scRsm.nd rfl (by first | exact .inl rfl | exact .inr rfl)) pgs_nil))))
      (pss_one (ps_ret (pe_tup (pa_cons (pe_tup (pa_cons pe_str (pa_cons (pv 3) pa_nil))) (pa_cons (pv 4) pa_nil)))))) pss_nil)
      (pss_cons (ps_set (i := 5) scRsm.nd rfl (by first | exact .inl rfl | exact .inr rfl) (pe_ix (ixT (K := K) rfl) (pe_partition (pe_slice sl_str (pv 1) (po_some (pv 2)) po_none) pe_str) pe_int (fun _ _ => rfl)))
      (pss_cons (ps_set (i := 6) scRsm.nd rfl (by first | exact .inl rfl | exact .inr rfl) (pe_op op_add (pe_op op_add (pv 2) (pe_callB call_len_str (by rfl) m_len PySem.boot_len (pa_cons (pv 5) pa_nil))) pe_int))
      (pss_cons (ps_set (i := 4) scRsm.nd rfl (by first | exact .inl rfl | exact .inr rfl) (pe_cl c2 hr (by decide) (by rfl) (pa_cons (pv 1) (pa_cons (pv 6) pa_nil))))
      (pss_cons (ps_set (i := 7) scRsm.nd rfl (by first | exact .inl rfl | exact .inr rfl) (pe_slice sl_str (pv 1) (po_some (pv 6)) (po_some (pv 4))))
      (pss_cons (ps_if (pt_cmpR op_eq (pv 5) pe_str (nomark _)) (pss_one (ps_ret (pe_tup (pa_cons (pe_cl c3 hr (by decide) (by rfl) (pa_cons (pv 0) (pa_cons (pv 7) pa_nil))) (pa_cons (pe_op op_add (pv 4) pe_int) pa_nil))))) pss_nil)
      (pss_cons (ps_if (pt_cmpR op_eq (pv 5) pe_str (nomark _)) (pss_one (ps_ret (pe_tup (pa_cons (pe_cl c4 hr (by decide) (by rfl) (pa_cons (pv 7) pa_nil)) (pa_cons (pe_op op_add (pv 4) pe_int) pa_nil))))) pss_nil)
      (pss_cons (ps_if (pt_cmpR (op_notIn_kd DW) (pv 5) (pe_glob (v := .ref HW) (by rfl) gH rfl) (by rfl)) pss_never pss_nil)
      (pss_one (ps_ret (pe_tup (pa_cons (pe_cl c5 hr (by decide) (by rfl) (pa_cons (pv 0) (pa_cons (pv 5) (pa_cons (pv 7) pa_nil)))) (pa_cons (pe_op op_add (pv 4) pe_int) pa_nil))))))))))))), ?_⟩
    have hz' : (S xs).length ≤ sizeLine := by rw [S_len, sizeLine_eq]; omega
    have hxl : xs.length = n + ((Cnd.cTx c).length + z.length) := by
      have := congrArg List.length hd
      rw [List.length_drop, List.length_append] at this
      omega
    refine ⟨_, rfl, rfl, _, rfl, S xs, S Cnd.namT, ((n : Nat) : Int), rfl, rfl, _, rfl, ?_⟩
    rw [sw3 hn, hd]
    by_cases hnm : Cnd.isNamed c = true
    · cases c with
      | named m =>
        cases hok with
        | named h0 h8 hm =>
          rw [decide_eq_true (show Cnd.namT <+: Cnd.cTx (.named m) ++ z from ⟨m ++ z, by show _ = (Cnd.namT ++ m) ++ z; rw [List.append_assoc]⟩)]
          refine iteT ?_
          have e6 : (Cnd.cTx (.named m)).length = 6 + m.length := by show (Cnd.namT ++ m).length = _; rw [List.length_append]; rfl
          have hd6 : xs.drop (n + 6) = m ++ z := by
            rw [← List.drop_drop, hd]
            show ((Cnd.namT ++ m) ++ z).drop 6 = _
            rw [List.append_assoc]
            rfl
          refine ⟨_, rfl, _, rfl, _, rfl, (by show 6 ≤ sizeLine; decide), _, _, rfl, rfl, xs, m, z, n + 6, ?_, hd6, by omega, hl, h0, h8, hm, hz, fun H1 p s1 np hp => ?_⟩
          · show [tx xs, V.int (((n : Nat) : Int) + ((6 : Nat) : Int))] = [tx xs, iv (n + 6)]
            rw [show ((n : Nat) : Int) + ((6 : Nat) : Int) = ((n + 6 : Nat) : Int) by omega]
          refine ⟨p, _, rfl, sqT hp, rfl, _, _, rfl, _, _, rfl, rfl, ?_⟩
          try dsimp only [gName, tSeq, tAsg, List.set_cons_zero, List.set_cons_succ]
          refine ⟨_, rfl, (by show 2 ≤ sizeLine; decide), fun T nT => ⟨_, rfl, (by show 2 ≤ sizeLine; decide), fun U nU => ?_⟩⟩
          have sT := same_new (o := .tup [V.str (Str.ofString "named"), tx m]) nT
          have sU := same_new (o := .tup [V.ref T, iv (n + 6 + m.length)]) nU
          have sTU := s1.trans (sT.trans sU)
          refine q _ U (V.ref T) sTU (none_of (s1.trans sT) nU) ?_ ⟨T, rfl, sU _ _ upd_same⟩
          rw [upd_same, e6, Nat.add_assoc]
      | mat p => cases hnm
      | len r m => cases hnm
      | tpl k a b x y => cases hnm
      | no c => cases hnm
      | two w a b => cases hnm
    have hnm : Cnd.isNamed c = false := by cases e : Cnd.isNamed c with
      | true => exact absurd e hnm
      | false => rfl
    rw [decide_eq_false (Cnd.not_named hlf hnm z)]
    refine iteF ?_
    have et := Cnd.leaf_text hlf hnm
    have hk := Cnd.kd_no c
    have hd0 : xs.drop n = Cnd.kd c ++ 40 :: (Cnd.inn c ++ 41 :: z) := by
      rw [hd, et, List.append_assoc]
      show Cnd.kd c ++ (40 :: ((Cnd.inn c ++ [41]) ++ z)) = _
      rw [List.append_assoc]
      rfl
    have hcl : (Cnd.cTx c).length = (Cnd.kd c).length + (1 + ((Cnd.inn c).length + 1)) := by
      rw [et, List.length_append, List.length_cons, List.length_append]
      show _ + (_ + 1 + 1) = _
      omega
    refine ⟨_, rfl, _, rfl, _, rfl, S xs, rfl, hz', ⟨_, rfl⟩, S (xs.drop n), S [40], ?_, rfl, rfl, by rw [S_len, sizeLine_eq, List.length_drop]; omega, fun P1 nP1 => ?_⟩
    · rw [cutN_from hn]
    rw [hd0, part_at hk]
    have sP1 := same_new (o := .tup [V.str (S (Cnd.kd c)), V.str (Txt.partition (S (Cnd.kd c ++ 40 :: (Cnd.inn c ++ 41 :: z))) (S [40])).2.1, V.str (Txt.partition (S (Cnd.kd c ++ 40 :: (Cnd.inn c ++ 41 :: z))) (S [40])).2.2]) nP1
    refine ⟨P1, _, 0, _, rfl, rfl, sqT upd_same, atI_nat (j := 0) rfl, ?_⟩
    generalize upd H P1 _ = H1 at sP1 ⊢
    try dsimp only [gName, tSeq, tAsg, List.set_cons_zero, List.set_cons_succ]
    obtain ⟨st, est⟩ : ∃ st, st = n + (Cnd.kd c).length + 1 := ⟨_, rfl⟩
    have hds : xs.drop st = Cnd.inn c ++ 41 :: z := by
      rw [est, Nat.add_assoc, ← List.drop_drop, hd0, ← List.drop_drop, List.drop_left]
      rfl
    have hst : st + (Cnd.inn c).length ≤ xs.length := by omega
    have hbal : ∀ d q i, Cnd.clo (d + 1) (Cnd.inn c ++ q) i = Cnd.clo (d + 1) q (i + (Cnd.inn c).length) := by
      cases hok with
      | named _ _ _ => cases hnm
      | mat hp _ => exact hp.bal
      | len _ _ =>
        exact Cnd.bal_plain fun x hx => by
          rcases List.mem_append.mp hx with h | h
          · exact Cnd.dec_plain x h
          · rcases List.mem_cons.mp h with rfl | h
            · decide
            · exact Cnd.dec_plain x h
      | tpl _ _ _ _ _ _ _ _ _ sa sb =>
        exact Cnd.bal_plain fun x hx => by
          rcases List.mem_append.mp hx with h | h
          · exact ⟨(sa x h).1, (sa x h).2.1⟩
          · rcases List.mem_cons.mp h with rfl | h
            · decide
            · exact ⟨(sb x h).1, (sb x h).2.1⟩
      | no _ => cases hlf
      | two _ _ => cases hlf
    have hclo : Cnd.clo 1 (xs.drop st) st = some (st + (Cnd.inn c).length) := by rw [hds]; exact Cnd.clo_at hbal
    have lkd : (S (Cnd.kd c)).length ≤ sizeLine := by rw [S_len, sizeLine_eq]; omega
    have eint : V.int (((n : Nat) : Int) + (((S (Cnd.kd c)).length : Nat) : Int) + 1) = iv st := by
      rw [S_len, est]
      show V.int _ = V.int _
      congr 1 <;> omega
    refine ⟨_, rfl, _, rfl, S (Cnd.kd c), rfl, lkd, _, _, rfl, rfl, _, _, rfl, rfl, ?_⟩
    dsimp only
    rw [eint]
    refine ⟨_, rfl, _, rfl, xs, st, _, rfl, hclo, hl, fun H2 s2 => ?_⟩
    refine ⟨_, rfl, _, rfl, _, rfl, _, rfl, _, rfl, S xs, rfl, hz', ?_⟩
    have ein : cutS (S xs) (some ((st : Nat) : Int)) (some ((st + (Cnd.inn c).length : Nat) : Int)) = S (Cnd.inn c) := by
      rw [cutN_mid (by omega) hst, hds, show st + (Cnd.inn c).length - st = (Cnd.inn c).length by omega, List.take_left]
    rw [ein]
    have s12 := sP1.trans s2
    try dsimp only [gName, tSeq, tAsg, List.set_cons_zero, List.set_cons_succ]
    have eend : ∀ v p H3, Same H2 H3 → H3 p = some (.tup [v, V.int (((st + (Cnd.inn c).length : Nat) : Int) + 1)]) → H3 p = some (.tup [v, iv (n + (Cnd.cTx c).length)]) := fun v p H3 _ h => by
      rw [h]
      congr 3
      show [V.int _] = [V.int _]
      congr 2 <;> omega
    cases hok with
    | named _ _ _ => cases hnm
    | no _ => cases hlf
    | two _ _ => cases hlf
    | @mat p0 hp lp =>
      refine ⟨_, rfl, rfl, _, rfl, ?_⟩
      refine iteT ?_
      refine ⟨_, rfl, _, rfl, gs, _, rfl, hp, lp, fun H3 a s3 na ha => ⟨_, rfl, _, _, rfl, rfl, (by show 2 ≤ sizeLine; decide), fun T nT => ?_⟩⟩
      have sT := same_new (o := .tup [V.ref a, V.int (((st + (Cnd.inn (.mat p0)).length : Nat) : Int) + 1)]) nT
      exact q _ T (V.ref a) (s12.trans (s3.trans sT)) (none_of (s12.trans s3) nT) (eend _ _ _ (s3.trans sT) upd_same) ⟨a, rfl, sT _ _ ha⟩
    | @len r0 m0 hrm hm =>
      refine ⟨_, rfl, rfl, _, rfl, iteF ?_⟩
      refine ⟨_, rfl, rfl, _, rfl, iteT ?_⟩
      refine ⟨_, rfl, _, _, rfl, hrm, hm, fun H3 a s3 na ha => ⟨_, rfl, _, _, rfl, rfl, (by show 2 ≤ sizeLine; decide), fun T nT => ?_⟩⟩
      have sT := same_new (o := .tup [V.ref a, V.int (((st + (Cnd.inn (.len r0 m0)).length : Nat) : Int) + 1)]) nT
      exact q _ T (V.ref a) (s12.trans (s3.trans sT)) (none_of (s12.trans s3) nT) (eend _ _ _ (s3.trans sT) upd_same) ⟨a, rfl, sT _ _ ha⟩
    | @tpl k a0 b i j hk3 hi hj li lj ra rb la lb sa sb =>
      have n1 : ∀ k, decide (V.str (S (Cnd.kwT k)) = V.str (Str.ofString "match")) = false := fun k => match k with
        | 0 => by decide
        | 1 => by decide
        | 2 => by decide
        | _ + 3 => (by decide : decide (V.str (S (Cnd.kwT 3)) = V.str (Str.ofString "match")) = false)
      have n2 : ∀ k, decide (V.str (S (Cnd.kwT k)) = V.str (Str.ofString "length")) = false := fun k => match k with
        | 0 => by decide
        | 1 => by decide
        | 2 => by decide
        | _ + 3 => (by decide : decide (V.str (S (Cnd.kwT 3)) = V.str (Str.ofString "length")) = false)
      obtain ⟨u, hu⟩ := kW k hk3
      refine ⟨_, rfl, rfl, _, rfl, ?_⟩
      show (if decide (V.str (S (Cnd.kwT k)) = V.str (Str.ofString "match")) = true then _ else _)
      rw [n1]
      refine iteF ⟨_, rfl, rfl, _, rfl, ?_⟩
      show (if decide (V.str (S (Cnd.kwT k)) = V.str (Str.ofString "length")) = true then _ else _)
      rw [n2]
      refine iteF ⟨_, rfl, S (Cnd.kwT k), some u, rfl, rfl, by rw [← kwS_T]; exact hu, _, rfl, iteF ?_⟩
      refine ⟨_, rfl, _, rfl, _, rfl, gs, a0, b, k, i, j, by rw [kwS_T]; rfl, hg, hi, hj, li, lj, ra, rb, la, lb, sa, sb, fun H3 a s3 na ha => ⟨_, rfl, _, _, rfl, rfl, (by show 2 ≤ sizeLine; decide), fun T nT => ?_⟩⟩
      have sT := same_new (o := .tup [V.ref a, V.int (((st + (Cnd.inn (.tpl k a0 b (rTx gs i) (rTx gs j))).length : Nat) : Int) + 1)]) nT
      exact q _ T (V.ref a) (s12.trans (s3.trans sT)) (none_of (s12.trans s3) nT) (eend _ _ _ (s3.trans sT) upd_same) ⟨a, rfl, sT _ _ ha⟩
end
end Own

namespace Own
open PySem PySem.Spec PyProof.Rows L2 SX RZ
section
variable {P : Program} {w : World} {K : PySem.W.Frag} {mg : Str → Option Value} {base : Heap}
abbrev mkV (b : Bool) : V := .str (if b then Str.ofString "not" else Str.ofString "(")
def spBeg : Sp := fun vs H Q _ => ∃ (xs w : List Nat) (n : Nat) (ms : List Bool), vs = [tx xs, iv n] ∧ xs.drop n = Cnd.preT ms ++ w ∧ n ≤ xs.length ∧ xs.length ≤ 100000 ∧ ¬ Cnd.notT <+: w ∧ ¬ [40] <+: w ∧
  ∀ H' p l, Same H H' → H p = none → H l = none → H' l = some (.lst (ms.map mkV)) → H' p = some (.tup [.ref l, iv (n + (Cnd.preT ms).length)]) → Q (.ref p) H'
abbrev sBeg : Stmt := topS 71
abbrev begN : List Str := ["text", "at", "begun", "end"]
theorem scBeg : FnScope begN ["text", "at"] (defScope sBeg) := ⟨rfl, rfl, rfl, by decide +kernel, rfl, by decide +kernel, by decide +kernel⟩
theorem ok_beg {f : Addr} {fd : FuncData} (F : Fun K "begun_conditions" "begun_conditions" sBeg f fd) (m_len : mg "len" = none) :
    FnOk P w K mg base CX0 1 f fd ["text", "at"] spBeg := by
  refine F.ok scBeg (fun vs H Q E h => ?_) (fun cdv A outer s H vs Q E hr h => ?_)
  · obtain ⟨xs, w0, n, ms, rfl, _⟩ := h
    rfl
  · obtain ⟨xs, w0, n, ms, rfl, hd, hn, hl, h1, h2, q⟩ := h
    refine ⟨_, (pss_cons (ps_set (i := 2) scBeg.nd rfl (by first | exact .inl rfl | exact .inr rfl) (pe_lst pa_nil))
      (pss_cons (ps_set (i := 3) scBeg.nd rfl (by first | exact .inl rfl | exact .inr rfl) (pv 1))
      (pss_one (ps_while PassesOwn.never (pt_val pe_bl)
        (pss_one (ps_if (pt_val (pe_bm PySem.F.plainAttrs_str PySem.F.slot_str_startswith PySem.F.type_str_startswith mt_startswith3 (pv 0) (pa_cons pe_str (pa_cons (pv 3) pa_nil)))) (pss_cons (ps_expr (pe_bm PySem.F.plainAttrs_list PySem.F.slot_list_append PySem.F.type_list_append mt_append (pv 2) (pa_cons pe_str pa_nil)))
      (pss_one (ps_aug (i := 3) scBeg.nd rfl (by first | exact .inl rfl | exact .inr rfl) (pe_callB call_len_str (by rfl) m_len PySem.boot_len (pa_cons pe_str pa_nil)) ip_add))) (pss_one (ps_if (pt_val (pe_bm PySem.F.plainAttrs_str PySem.F.slot_str_startswith PySem.F.type_str_startswith mt_startswith3 (pv 0) (pa_cons pe_str (pa_cons (pv 3) pa_nil)))) (pss_cons (ps_expr (pe_bm PySem.F.plainAttrs_list PySem.F.slot_list_append PySem.F.type_list_append mt_append (pv 2) (pa_cons pe_str pa_nil)))
      (pss_one (ps_aug (i := 3) scBeg.nd rfl (by first | exact .inl rfl | exact .inr rfl) (pe_callB call_len_str (by rfl) m_len PySem.boot_len (pa_cons pe_str pa_nil)) ip_add))) (pss_one (ps_ret (pe_tup (pa_cons (pv 2) (pa_cons (pv 3) pa_nil))))))))))))), ?_⟩
    have hz' : (S xs).length ≤ sizeLine := by rw [S_len, sizeLine_eq]; omega
    have hpl : (Cnd.preT ms).length + w0.length = xs.length - n := by
      have := congrArg List.length hd
      rw [List.length_drop, List.length_append] at this
      omega
    have hml : ∀ l : List Bool, l.length ≤ (Cnd.preT l).length := fun l => by
      induction l with
      | nil => exact Nat.le_refl _
      | cons b l ih =>
        show l.length + 1 ≤ (Cnd.mkT b ++ Cnd.preT l).length
        rw [List.length_append]
        have : 1 ≤ (Cnd.mkT b).length := by cases b <;> decide
        omega
    have hms := hml ms
    refine ⟨Nat.zero_le _, fun L nL => ?_⟩
    have sL := same_new (o := .lst []) nL
    refine ⟨_, rfl, ?_⟩
    show tWhile _ _ _ [some (tx xs), some (iv n), some (.ref L), some (iv n)] _
    refine ⟨fun m σ H' => ∃ k, σ = [some (tx xs), some (iv n), some (.ref L), some (iv (n + (Cnd.preT (ms.take k)).length))] ∧ k ≤ ms.length ∧ m = ms.length - k ∧ Same H H' ∧ H' L = some (.lst ((ms.take k).map mkV)), ⟨_, 0, rfl, Nat.zero_le _, rfl, sL, upd_same⟩, ?_⟩
    rintro m σ H1 ⟨k, rfl, hk, rfl, s1, hL⟩
    refine ⟨true, rfl, ?_⟩
    refine iteT ?_
    have eall : Cnd.preT ms = Cnd.preT (ms.take k) ++ Cnd.preT (ms.drop k) := by
      show ms.flatMap Cnd.mkT = (ms.take k).flatMap Cnd.mkT ++ (ms.drop k).flatMap Cnd.mkT
      rw [← List.flatMap_append, List.take_append_drop]
    have hdk : xs.drop (n + (Cnd.preT (ms.take k)).length) = Cnd.preT (ms.drop k) ++ w0 := by
      rw [← List.drop_drop, hd, eall, List.append_assoc, List.drop_left]
    have hle : n + (Cnd.preT (ms.take k)).length ≤ xs.length := by
      have := congrArg List.length eall
      rw [List.length_append] at this
      omega
    have llen : ((ms.take k).map mkV).length < sizeLine := by
      rw [List.length_map, List.length_take, sizeLine_eq]
      omega
    have inv : (fun σ H' => ∃ k', k' = k + 1 ∧ k' ≤ ms.length ∧ σ = [some (tx xs), some (iv n), some (.ref L), some (iv (n + (Cnd.preT (ms.take k')).length))] ∧ Same H H' ∧ H' L = some (.lst ((ms.take k').map mkV))) = (fun σ H' => ∃ k', k' = k + 1 ∧ k' ≤ ms.length ∧ σ = [some (tx xs), some (iv n), some (.ref L), some (iv (n + (Cnd.preT (ms.take k')).length))] ∧ Same H H' ∧ H' L = some (.lst ((ms.take k').map mkV))) := rfl
    refine ⟨fun (σ : L2.St) (H' : Hp) => ∃ k', k' = k + 1 ∧ k' ≤ ms.length ∧ σ = [some (tx xs), some (iv n), some (.ref L), some (iv (n + (Cnd.preT (ms.take k')).length))] ∧ Same H H' ∧ H' L = some (.lst ((ms.take k').map mkV)), ?_, ?_⟩
    · rintro σ' H' ⟨k', rfl, h1, rfl, s2, h2⟩
      exact ⟨_, by omega, _, rfl, h1, rfl, s2, h2⟩
    refine ⟨_, rfl, rfl, _, rfl, S xs, S Cnd.notT, _, rfl, rfl, _, rfl, ?_⟩
    rw [sw3 hle, hdk]
    by_cases hlt : k < ms.length
    · have ed : ms.drop k = ms[k] :: ms.drop (k + 1) := List.drop_eq_getElem_cons hlt
      have et : ms.take (k + 1) = ms.take k ++ [ms[k]] := by rw [List.take_add_one, List.getElem?_eq_getElem hlt]; rfl
      have ep : (Cnd.preT (ms.take (k + 1))).length = (Cnd.preT (ms.take k)).length + (Cnd.mkT ms[k]).length := by
        rw [et]
        show ((ms.take k ++ [ms[k]]).flatMap Cnd.mkT).length = _
        rw [List.flatMap_append, List.length_append]
        show _ + (Cnd.mkT ms[k] ++ []).length = _
        rw [List.append_nil]
        rfl
      have em : ((ms.take k).map mkV) ++ [mkV ms[k]] = (ms.take (k + 1)).map mkV := by rw [et, List.map_append]; rfl
      rw [ed]
      generalize hb : ms[k] = b at ep em et
      cases b with
      | true =>
        rw [decide_eq_true (show Cnd.notT <+: Cnd.preT (true :: ms.drop (k + 1)) ++ w0 from ⟨Cnd.preT (ms.drop (k + 1)) ++ w0, by show _ = (Cnd.notT ++ Cnd.preT (ms.drop (k + 1))) ++ w0; rw [List.append_assoc]⟩)]
        refine iteT ?_
        refine ⟨_, rfl, .inl ⟨rfl, _, sqL hL⟩, L, _, _, rfl, rfl, hL, llen, ?_⟩
        refine ⟨_, rfl, _, rfl, (by show 4 ≤ sizeLine; decide), _, _, rfl, rfl, _, rfl, by omega, ?_, same_put s1 nL, ?_⟩
        · show [some (tx xs), some (iv n), some (.ref L), some (V.int (((n + (Cnd.preT (ms.take k)).length : Nat) : Int) + 4))] = _
          rw [ep]
          show _ = [some (tx xs), some (iv n), some (.ref L), some (iv (n + ((Cnd.preT (ms.take k)).length + 4)))]
          rw [show ((n + (Cnd.preT (ms.take k)).length : Nat) : Int) + 4 = ((n + ((Cnd.preT (ms.take k)).length + 4) : Nat) : Int) by omega]
        · rw [upd_same, ← em]; rfl
      | false =>
        rw [decide_eq_false (show ¬ Cnd.notT <+: Cnd.preT (false :: ms.drop (k + 1)) ++ w0 from fun ⟨t, e⟩ => by
          have e : Cnd.notT ++ t = 40 :: (Cnd.preT (ms.drop (k + 1)) ++ w0) := e
          cases e)]
        refine iteF ?_
        refine ⟨_, rfl, rfl, _, rfl, S xs, S [40], _, rfl, rfl, _, rfl, ?_⟩
        rw [sw3 hle, hdk, ed, hb]
        rw [decide_eq_true (show [40] <+: Cnd.preT (false :: ms.drop (k + 1)) ++ w0 from ⟨Cnd.preT (ms.drop (k + 1)) ++ w0, rfl⟩)]
        refine iteT ?_
        refine ⟨_, rfl, .inl ⟨rfl, _, sqL hL⟩, L, _, _, rfl, rfl, hL, llen, ?_⟩
        refine ⟨_, rfl, _, rfl, (by show 1 ≤ sizeLine; decide), _, _, rfl, rfl, _, rfl, by omega, ?_, same_put s1 nL, ?_⟩
        · show [some (tx xs), some (iv n), some (.ref L), some (V.int (((n + (Cnd.preT (ms.take k)).length : Nat) : Int) + 1))] = _
          rw [ep]
          show _ = [some (tx xs), some (iv n), some (.ref L), some (iv (n + ((Cnd.preT (ms.take k)).length + 1)))]
          rw [show ((n + (Cnd.preT (ms.take k)).length : Nat) : Int) + 1 = ((n + ((Cnd.preT (ms.take k)).length + 1) : Nat) : Int) by omega]
        · rw [upd_same, ← em]; rfl
    · have ek : k = ms.length := by omega
      subst ek
      rw [List.drop_length]
      rw [decide_eq_false (show ¬ Cnd.notT <+: Cnd.preT [] ++ w0 from h1)]
      refine iteF ?_
      refine ⟨_, rfl, rfl, _, rfl, S xs, S [40], _, rfl, rfl, _, rfl, ?_⟩
      rw [sw3 hle, hdk, List.drop_length]
      rw [decide_eq_false (show ¬ [40] <+: Cnd.preT [] ++ w0 from h2)]
      refine iteF ?_
      rw [List.take_length] at hL
      refine ⟨_, rfl, _, rfl, (by show 2 ≤ sizeLine; decide), fun T nT => ?_⟩
      have sT := same_new (o := .tup [V.ref L, iv (n + (Cnd.preT (ms.take ms.length)).length)]) nT
      refine q _ T L (s1.trans sT) (none_of s1 nT) nL (sT _ _ hL) ?_
      rw [upd_same, List.take_length]
end
end Own

namespace Own
open PySem PySem.Spec PyProof.Rows L2 SX RZ
section
variable {P : Program} {w : World} {K : PySem.W.Frag} {mg : Str → Option Value} {base : Heap}
def spLnk : Sp := fun vs H Q _ => ∃ (xs z : List Nat) (n : Nat) (b : Bool), vs = [tx xs, iv n] ∧ xs.drop n = 32 :: (Cnd.wdT b ++ (32 :: z)) ∧ n ≤ xs.length ∧ xs.length ≤ 100000 ∧ ∀ H', Same H H' → Q (.str (wdS b)) H'
abbrev sLnk : Stmt := topS 72
abbrev lnkN : List Str := ["text", "at", "word"]
theorem scLnk : FnScope lnkN ["text", "at"] (defScope sLnk) := ⟨rfl, rfl, rfl, by decide +kernel, rfl, by decide +kernel, by decide +kernel⟩
theorem ok_lnk {f : Addr} {fd : FuncData} (F : Fun K "linking_word" "linking_word" sLnk f fd) :
    FnOk P w K mg base CX0 1 f fd ["text", "at"] spLnk := by
  refine F.ok scLnk (fun vs H Q E h => ?_) (fun cdv A outer s H vs Q E hr h => ?_)
  · obtain ⟨xs, z, n, b, rfl, _⟩ := h
    rfl
  · obtain ⟨xs, z, n, b, rfl, hd, hn, hl, q⟩ := h
    refine ⟨_, (pss_cons (ps_for PassesOwn.never rfl (pi_tup (pe_tup (pa_cons pe_str (pa_cons pe_str pa_nil)))) (pg_name (i := 2) scLnk.nd rfl (by first | exact .inl rfl | exact .inr rfl))
        (pss_one (ps_if (pt_val (pe_bm PySem.F.plainAttrs_str PySem.F.slot_str_startswith PySem.F.type_str_startswith mt_startswith3 (pv 0) (pa_cons (pe_joined (.cons pe_str (.cons (pe_fmt (pv 2)) (.cons pe_str .nil)))) (pa_cons (pv 1) pa_nil)))) (pss_one (ps_ret (pv 2))) pss_nil)))
      (pss_one (ps_never))), ?_⟩
    have hz' : (S xs).length ≤ sizeLine := by rw [S_len, sizeLine_eq]; omega
    refine ⟨(by show 2 ≤ sizeLine; decide), fun T nT => ⟨T, rfl, ⟨_, sqT upd_same⟩, ?_⟩⟩
    have sT := same_new (o := .tup [V.str (Str.ofString "and"), V.str (Str.ofString "or")]) nT
    have hT : upd H T (.tup [V.str (Str.ofString "and"), V.str (Str.ofString "or")]) T = some (.tup [V.str (Str.ofString "and"), V.str (Str.ofString "or")]) := upd_same
    generalize upd H T (.tup [V.str (Str.ofString "and"), V.str (Str.ofString "or")]) = H1 at sT hT ⊢
    refine for_it (walk_tup (K := K) (a := T) (xs := [V.str (Str.ofString "and"), V.str (Str.ofString "or")])) (fun i σ H' => ∃ v2 : Option V, σ = [some (tx xs), some (iv n), v2] ∧ Same H H' ∧ Same H1 H' ∧ (i = 0 ∨ (i = 1 ∧ b = false)))
      ⟨none, rfl, sT, Same.refl _, .inl rfl⟩ (fun i σ H' _ h => by obtain ⟨_, _, _, s, _⟩ := h; exact sqT (s _ _ hT)) ?_ ?_
    · rintro i v σ H2 H3 hi ⟨v2, rfl, s2, s12, hib⟩ ⟨rfl, hv⟩
      try dsimp only [gName, tSeq, tAsg, List.set_cons_zero, List.set_cons_succ]
      obtain ⟨wb, rfl, hwi⟩ : ∃ wb : Bool, v = V.str (wdS wb) ∧ (i = if wb then 0 else 1) := by
        match i, hi, hv with
        | 0, _, hv => cases hv; exact ⟨true, rfl, rfl⟩
        | 1, _, hv => cases hv; exact ⟨false, rfl, rfl⟩
      have ew : Str.empty ++ Str.ofString " " ++ wdS wb ++ Str.ofString " " = S (32 :: (Cnd.wdT wb ++ [32])) := by cases wb <;> rfl
      have lw : (wdS wb).length ≤ sizeLine := by cases wb <;> (show _ ≤ sizeLine; decide)
      have l1 : (Str.empty ++ Str.ofString " ").length ≤ sizeLine := by decide
      have l2 : (Str.empty ++ Str.ofString " " ++ wdS wb).length ≤ sizeLine := by cases wb <;> decide
      have l3 : (Str.empty ++ Str.ofString " " ++ wdS wb ++ Str.ofString " ").length ≤ sizeLine := by cases wb <;> decide
      refine ⟨_, rfl, rfl, _, rfl, l1, _, rfl, .inl ⟨_, rfl, lw, _, rfl, l2, _, rfl, l3, _, rfl, S xs, _, _, rfl, rfl, _, rfl, ?_⟩⟩
      rw [ew, sw3 hn, hd]
      have s3 := s2
      by_cases hb : wb = b
      · subst hb
        rw [decide_eq_true (show (32 :: (Cnd.wdT wb ++ [32])) <+: (32 :: (Cnd.wdT wb ++ (32 :: z))) from ⟨z, by show 32 :: ((Cnd.wdT wb ++ [32]) ++ z) = _; rw [List.append_assoc]; rfl⟩)]
        exact iteT ⟨_, rfl, q _ s2⟩
      · rw [decide_eq_false (show ¬ (32 :: (Cnd.wdT wb ++ [32])) <+: (32 :: (Cnd.wdT b ++ (32 :: z))) from fun ⟨t, e⟩ => hb (by
          cases wb <;> cases b
          · rfl
          · simp [Cnd.wdT] at e
          · simp [Cnd.wdT] at e
          · rfl))]
        refine iteF ⟨_, rfl, s2, s12, ?_⟩
        rcases hib with rfl | ⟨rfl, rfl⟩
        · refine .inr ⟨rfl, ?_⟩
          have : wb = true := by cases wb with
            | true => rfl
            | false => cases hwi
          subst this
          cases b with
          | true => exact absurd rfl hb
          | false => rfl
        · have : wb = false := by cases wb with
            | true => cases hwi
            | false => rfl
          exact absurd this hb
    · rintro σ H2 ⟨v2, rfl, s2, s12, hib⟩
      have hib : (2 = 0 ∨ (2 = 1 ∧ b = false)) := hib
      omega
end
end Own

namespace Own
open PySem PySem.Spec PyProof.Rows L2 SX RZ
section
variable {P : Program} {w : World} {K : PySem.W.Frag} {mg : Str → Option Value} {base : Heap}
def FsV (H : Hp) : List Cnd.Fr → List V → Prop
  | [], [] => True
  | f :: fs, v :: vs => FrV H f v ∧ FsV H fs vs
  | _, _ => False
theorem FsV.keep {H H' : Hp} (k : ∀ a xs, H a = some (.tup xs) → H' a = some (.tup xs)) : ∀ {fs : List Cnd.Fr} {vs : List V}, FsV H fs vs → FsV H' fs vs
  | [], [], h => h
  | _ :: _, _ :: _, ⟨h, i⟩ => ⟨h.keep k, i.keep k⟩
  | [], _ :: _, h => h.elim
  | _ :: _, [], h => h.elim
theorem FsV.app {H : Hp} : ∀ {fs : List Cnd.Fr} {vs : List V} {gs : List Cnd.Fr} {ws : List V}, FsV H fs vs → FsV H gs ws → FsV H (fs ++ gs) (vs ++ ws)
  | [], [], _, _, _, h => h
  | _ :: _, _ :: _, _, _, ⟨h, i⟩, j => ⟨h, i.app j⟩
  | [], _ :: _, _, _, h, _ => h.elim
  | _ :: _, [], _, _, h, _ => h.elim
theorem FsV.len {H : Hp} : ∀ {fs : List Cnd.Fr} {vs : List V}, FsV H fs vs → fs.length = vs.length
  | [], [], _ => rfl
  | _ :: _, _ :: _, ⟨_, i⟩ => congrArg (· + 1) i.len
  | [], _ :: _, h => h.elim
  | _ :: _, [], h => h.elim
theorem new_v {H : Hp} : ∀ (c : Cnd.Cd), FsV H (Cnd.newF c).reverse ((Cnd.marks c).map mkV).reverse
  | .no c => by
    show FsV H (Cnd.Fr.no :: Cnd.newF c).reverse (mkV true :: (Cnd.marks c).map mkV).reverse
    rw [List.reverse_cons, List.reverse_cons]
    exact (new_v c).app ⟨rfl, True.intro⟩
  | .two w a b => by
    show FsV H (Cnd.Fr.lft w b :: Cnd.newF a).reverse (mkV false :: (Cnd.marks a).map mkV).reverse
    rw [List.reverse_cons, List.reverse_cons]
    exact (new_v a).app ⟨rfl, True.intro⟩
  | .named _ | .mat _ | .len _ _ | .tpl _ _ _ _ _ => True.intro
theorem dpt_len : ∀ (fs : List Cnd.Fr) (c : Cnd.Cd), fs.length + Cnd.dpt c ≤ Cnd.dpt (Cnd.plug fs c)
  | [], c => Nat.le_of_eq (Nat.zero_add _)
  | .no :: fs, c => by
    have h := dpt_len fs (.no c)
    have : Cnd.dpt (.no c) = Cnd.dpt c + 1 := rfl
    show fs.length + 1 + Cnd.dpt c ≤ Cnd.dpt (Cnd.plug fs (.no c))
    omega
  | .lft w r :: fs, c => by
    have h := dpt_len fs (.two w c r)
    have : Cnd.dpt (.two w c r) = max (Cnd.dpt c) (Cnd.dpt r) + 1 := rfl
    show fs.length + 1 + Cnd.dpt c ≤ Cnd.dpt (Cnd.plug fs (.two w c r))
    omega
  | .rgt w l :: fs, c => by
    have h := dpt_len fs (.two w l c)
    have : Cnd.dpt (.two w l c) = max (Cnd.dpt l) (Cnd.dpt c) + 1 := rfl
    show fs.length + 1 + Cnd.dpt c ≤ Cnd.dpt (Cnd.plug fs (.two w l c))
    omega
theorem fs_app {gs : List Nat} {a b : List Cnd.Fr} (ha : FsOk gs a) (hb : FsOk gs b) : FsOk gs (a ++ b) := fun f hf => (List.mem_append.mp hf).elim (ha f) (hb f)
theorem tup_keep {H : Hp} {B : Addr} {ys : List V} {o : HO} (hB : H B = some (.lst ys)) : ∀ a xs, H a = some (.tup xs) → upd H B o a = some (.tup xs) := fun a xs h => by
  rw [upd_ne (fun e => by rw [e, hB] at h; cases h)]
  exact h
theorem get_last {l : List V} {v : V} : (l ++ [v])[(l ++ [v]).length - 1]? = some v := by
  rw [List.length_append]
  show (l ++ [v])[l.length + 1 - 1]? = some v
  rw [Nat.add_sub_cancel, List.getElem?_append_right (Nat.le_refl _), Nat.sub_self]
  rfl
theorem ixN_last {l : List V} {v : V} : ixN (l ++ [v]).length (-1) = some l.length := by
  rw [List.length_append]
  unfold ixN
  rw [if_neg (by decide)]
  rw [if_pos (by show -(((l.length + 1 : Nat)) : Int) ≤ -1; omega)]
  congr 1
  show (-1 + ((l.length + 1 : Nat) : Int)).toNat = _
  omega
theorem set_last {l : List V} {v u : V} : (l ++ [v]).set l.length u = l ++ [u] := by
  rw [List.set_append_right _ _ (Nat.le_refl _), Nat.sub_self]
  rfl
theorem shp_pair {w : Bool} {l : Cnd.Cd} (h : Low l) (hd : Cnd.dpt l ≤ 60) : SeqAt.shaped (.tuple [.str (wdS w), cdD l]) = true := by
  have h1 : PyData.canLay0 (.tuple [.str (wdS w), cdD l]) = true := by
    show (PyData.canLay0 (.str (wdS w)) && (PyData.canLay0 (cdD l) && true)) = true
    rw [lay_wd, lay_cd h]
    rfl
  have h2 : PyData.depth (.tuple [.str (wdS w), cdD l]) ≤ 64 := by
    have := dep_cd l
    show max 0 (max (PyData.depth (cdD l)) 0) + 1 ≤ 64
    omega
  unfold SeqAt.shaped
  rw [h1, decide_eq_true h2]
  rfl
def spRdc : Sp := fun vs H Q _ => ∃ (gs xs z : List Nat) (n : Nat) (c : Cnd.Cd), vs = [tx gs, tx xs, iv n] ∧ Good gs ∧ xs.drop n = Cnd.cTx c ++ z ∧ n ≤ xs.length ∧ xs.length ≤ 100000 ∧ OkS gs c ∧ Cnd.dpt c ≤ 60 ∧ (∀ d r, z = d :: r → ¬ (97 ≤ d ∧ d ≤ 122)) ∧
  ∀ H' p v, Same H H' → H p = none → H' p = some (.tup [v, iv (n + (Cnd.cTx c).length)]) → CdH H' c v → Q (.ref p) H'
abbrev sRdc : Stmt := topS 73
abbrev rdcN : List Str := ["letters", "text", "at", "begun", "end", "more", "condition", "last", "word"]
theorem scRdc : FnScope rdcN ["letters", "text", "at"] (defScope sRdc) := ⟨rfl, rfl, rfl, by decide +kernel, rfl, by decide +kernel, by decide +kernel⟩
theorem ok_rdc {f : Addr} {fd : FuncData} (F : Fun K "read_condition" "read_condition" sRdc f fd) (m_len : mg "len" = none) {f1 : Addr} {fd1 : FuncData} (c1 : Cl P w K mg base "begun_conditions" 1 ["text", "at"] spBeg f1 fd1) {f2 : Addr} {fd2 : FuncData} (c2 : Cl P w K mg base "read_simple" 8 ["letters", "text", "at"] spRsm f2 fd2) {f3 : Addr} {fd3 : FuncData} (c3 : Cl P w K mg base "linking_word" 1 ["text", "at"] spLnk f3 fd3) :
    FnOk P w K mg base CX0 9 f fd ["letters", "text", "at"] spRdc := by
  refine F.ok scRdc (fun vs H Q E h => ?_) (fun cdv A outer s H vs Q E hr h => ?_)
  · obtain ⟨gs, xs, z, n, c, rfl, _⟩ := h
    rfl
  · obtain ⟨gs, xs, z, n0, c0, rfl, hg, hd0, hn0, hl, hok0, hdp, hz, q⟩ := h
    refine ⟨_, (pss_cons (ps_set (i := 3) scRdc.nd rfl (by first | exact .inl rfl | exact .inr rfl) (pe_lst pa_nil))
      (pss_cons (ps_set (i := 4) scRdc.nd rfl (by first | exact .inl rfl | exact .inr rfl) (pv 2))
      (pss_one (ps_while PassesOwn.never (pt_val pe_bl)
        (pss_cons (ps_asg (pe_cl c1 hr (by decide) (by rfl) (pa_cons (pv 1) (pa_cons (pv 4) pa_nil))) (pg_tup rfl (pgs_cons (pg_name (i := 5) scRdc.nd rfl (by first | exact .inl rfl | exact .inr rfl)) (pgs_cons (pg_name (i := 4) scRdc.nd rfl (by first | exact .inl rfl | exact .inr rfl)) pgs_nil))))
      (pss_cons (ps_expr (pe_bm PySem.F.plainAttrs_list PySem.F.slot_list_extend PySem.F.type_list_extend mt_extend (pv 3) (pa_cons (pv 5) pa_nil)))
      (pss_cons (ps_asg (pe_cl c2 hr (by decide) (by rfl) (pa_cons (pv 0) (pa_cons (pv 1) (pa_cons (pv 4) pa_nil)))) (pg_tup rfl (pgs_cons (pg_name (i := 6) scRdc.nd rfl (by first | exact .inl rfl | exact .inr rfl)) (pgs_cons (pg_name (i := 4) scRdc.nd rfl (by first | exact .inl rfl | exact .inr rfl)) pgs_nil))))
      (pss_cons (ps_while PassesOwn.never (PW.pt (pw_and (pt_truth (pv 3) (fun _ => rfl)) (pw_and1 (pt_cmpR (op_neD hr.units) (pe_ix (ixL (K := K) rfl) (pv 3) (pe_un un_neg pe_int) (fun _ _ => rfl)) pe_str (nomark _)))))
        (pss_cons (ps_set (i := 7) scRdc.nd rfl (by first | exact .inl rfl | exact .inr rfl) (pe_bm0 PySem.F.plainAttrs_list PySem.F.slot_list_pop PySem.F.type_list_pop mt_pop (pv 3)))
      (pss_one (ps_if (pt_cmpR (op_eqD hr.units) (pv 7) pe_str (nomark _)) (pss_one (ps_set (i := 6) scRdc.nd rfl (by first | exact .inl rfl | exact .inr rfl) (pe_tup (pa_cons pe_str (pa_cons (pv 6) pa_nil))))) (pss_one (ps_if (pt_val (pe_bm PySem.F.plainAttrs_str PySem.F.slot_str_startswith PySem.F.type_str_startswith mt_startswith3 (pv 1) (pa_cons pe_str (pa_cons (pv 4) pa_nil)))) (pss_cons (ps_set (i := 6) scRdc.nd rfl (by first | exact .inl rfl | exact .inr rfl) (pe_tup (pa_cons (pe_ix (ixT (K := K) rfl) (pv 7) pe_int (fun _ _ => rfl)) (pa_cons (pe_ix (ixT (K := K) rfl) (pv 7) pe_int (fun _ _ => rfl)) (pa_cons (pv 6) pa_nil)))))
      (pss_one (ps_aug (i := 4) scRdc.nd rfl (by first | exact .inl rfl | exact .inr rfl) pe_int ip_add))) pss_never))))))
      (pss_cons (ps_if (pt_not (pt_truth (pv 3) (fun _ => rfl))) (pss_one (ps_ret (pe_tup (pa_cons (pv 6) (pa_cons (pv 4) pa_nil))))) pss_nil)
      (pss_cons (ps_set (i := 8) scRdc.nd rfl (by first | exact .inl rfl | exact .inr rfl) (pe_cl c3 hr (by decide) (by rfl) (pa_cons (pv 1) (pa_cons (pv 4) pa_nil))))
      (pss_cons (ps_asg (pe_tup (pa_cons (pv 8) (pa_cons (pv 6) pa_nil))) (pg_sub (pv 3) (pe_un un_neg pe_int) set_list))
      (pss_one (ps_aug (i := 4) scRdc.nd rfl (by first | exact .inl rfl | exact .inr rfl) (pe_op op_add (pe_callB call_len_str (by rfl) m_len PySem.boot_len (pa_cons (pv 8) pa_nil)) pe_int) ip_add))))))))))))), ?_⟩
    have hz' : (S xs).length ≤ sizeLine := by rw [S_len, sizeLine_eq]; omega
    refine ⟨Nat.zero_le _, fun B nB => ?_⟩
    have sB := same_new (o := .lst []) nB
    refine ⟨_, rfl, ?_⟩
    show tWhile _ _ _ [some (tx gs), some (tx xs), some (iv n0), some (.ref B), some (iv n0), none, none, none, none] _
    refine ⟨fun m σ H' => ∃ (fs : List Cnd.Fr) (c : Cnd.Cd) (n : Nat) (vs : List V) (v5 v6 v7 v8 : Option V), σ = [some (tx gs), some (tx xs), some (iv n0), some (.ref B), some (iv n), v5, v6, v7, v8] ∧ Same H H' ∧ H' B = some (.lst vs.reverse) ∧ FsV H' fs vs ∧ n ≤ xs.length ∧ xs.drop n = Cnd.cTx c ++ Cnd.rest z fs ∧ Cnd.plug fs c = c0 ∧ FsOk gs fs ∧ OkS gs c ∧ m = Cnd.size c + Cnd.left fs,
      ⟨_, [], c0, n0, [], none, none, none, none, rfl, sB, upd_same, True.intro, hn0, hd0, rfl, fun _ h => (nomatch h), hok0, rfl⟩, ?_⟩
    rintro m σ H1 ⟨fs, c, n, vs, v5, v6, v7, v8, rfl, s1, hB, hF, hn, hd, hpl, hfo, hco, rfl⟩
    refine ⟨true, rfl, ?_⟩
    refine ⟨_, fun _ _ h => h, ?_⟩
    have hto := Cnd.text_of (z := z) c fs
    have hlf := Cnd.leaf_of c
    have hld := Cnd.lead hlf (Cnd.rest z ((Cnd.newF c).reverse ++ fs))
    have hml : (Cnd.preT (Cnd.marks c)).length + (Cnd.cTx (Cnd.leafOf c) ++ Cnd.rest z ((Cnd.newF c).reverse ++ fs)).length = xs.length - n := by
      have := congrArg List.length (hd.trans hto)
      rw [List.length_drop, List.length_append] at this
      omega
    refine ⟨_, rfl, _, rfl, xs, _, n, Cnd.marks c, rfl, hd.trans hto, hn, hl, hld.1, hld.2, fun H2 p l s2 np nl hL hp => ?_⟩
    refine ⟨p, _, rfl, sqT hp, rfl, _, _, rfl, _, _, rfl, rfl, ?_⟩
    try dsimp only [gName, tSeq, tAsg, List.set_cons_zero, List.set_cons_succ]
    have hB2 : H2 B = some (.lst vs.reverse) := s2 _ _ hB
    have hlen := dpt_len ((Cnd.newF c).reverse ++ fs) (Cnd.leafOf c)
    rw [Cnd.plug_of, hpl, List.length_append, List.length_reverse] at hlen
    have hmn : (Cnd.marks c).length = (Cnd.newF c).length := by rw [Cnd.marks_new, List.length_map]
    have hfl := hF.len
    refine ⟨_, rfl, .inl ⟨rfl, _, sqL hB2⟩, _, rfl, B, l, _, _, rfl, rfl, hB2, hL, by rw [List.length_reverse, List.length_map, sizeLine_eq]; omega, ?_⟩
    obtain ⟨H3, eH3⟩ : ∃ H3, H3 = upd H2 B (.lst (vs.reverse ++ (Cnd.marks c).map mkV)) := ⟨_, rfl⟩
    rw [← eH3]
    have s3 : Same H H3 := by rw [eH3]; exact same_put (s1.trans s2) nB
    have hB3 : H3 B = some (.lst (vs.reverse ++ (Cnd.marks c).map mkV)) := by rw [eH3]; exact upd_same
    have hF3 : FsV H3 ((Cnd.newF c).reverse ++ fs) (((Cnd.marks c).map mkV).reverse ++ vs) := (new_v c).app (by rw [eH3]; exact (hF.keep fun a xs e => s2 _ _ e).keep (tup_keep hB2))
    have hn1 : n + (Cnd.preT (Cnd.marks c)).length ≤ xs.length := by omega
    have hd1 : xs.drop (n + (Cnd.preT (Cnd.marks c)).length) = Cnd.cTx (Cnd.leafOf c) ++ Cnd.rest z ((Cnd.newF c).reverse ++ fs) := by
      rw [← List.drop_drop, hd, hto, List.drop_left]
    refine ⟨_, rfl, _, rfl, _, rfl, gs, xs, _, _, Cnd.leafOf c, rfl, hg, hd1, hn1, hl, hlf, (new_ok hco).2, Cnd.rest_head hz _, fun H4 p2 v s4 np2 hp2 hv => ?_⟩
    refine ⟨p2, _, rfl, sqT hp2, rfl, _, _, rfl, _, _, rfl, rfl, ?_⟩
    try dsimp only [gName, tSeq, tAsg, List.set_cons_zero, List.set_cons_succ]
    have hlc := Cnd.left_new c
    have eapp := Cnd.left_app (Cnd.newF c).reverse fs
    have hcl : (Cnd.cTx (Cnd.leafOf c)).length + (Cnd.rest z ((Cnd.newF c).reverse ++ fs)).length = (Cnd.cTx (Cnd.leafOf c) ++ Cnd.rest z ((Cnd.newF c).reverse ++ fs)).length := (List.length_append).symm
    refine ⟨fun m σ H' => ∃ (fs1 : List Cnd.Fr) (c1 : Cnd.Cd) (n1 : Nat) (vs1 : List V) (v1 : V) (v5 v7 v8 : Option V), σ = [some (tx gs), some (tx xs), some (iv n0), some (.ref B), some (iv n1), v5, some v1, v7, v8] ∧ Same H H' ∧ H' B = some (.lst vs1.reverse) ∧ FsV H' fs1 vs1 ∧ CdH H' c1 v1 ∧ n1 ≤ xs.length ∧ xs.drop n1 = Cnd.rest z fs1 ∧ Cnd.plug fs1 c1 = c0 ∧ FsOk gs fs1 ∧ OkS gs c1 ∧ Cnd.left fs1 < Cnd.size c + Cnd.left fs ∧ m = fs1.length,
      ⟨_, (Cnd.newF c).reverse ++ fs, Cnd.leafOf c, n + (Cnd.preT (Cnd.marks c)).length + (Cnd.cTx (Cnd.leafOf c)).length, ((Cnd.marks c).map mkV).reverse ++ vs, v, _, _, _, rfl, s3.trans s4, ?_, hF3.keep (fun a xs e => s4 _ _ e), hv, by omega, ?_, (Cnd.plug_of c fs).trans hpl, fs_app (fun f hf => (new_ok hco).1 f (List.mem_reverse.mp hf)) hfo, (new_ok hco).2, by omega, rfl⟩, ?_⟩
    · rw [List.reverse_append, List.reverse_reverse]
      exact s4 _ _ hB3
    · rw [← List.drop_drop, hd1, List.drop_left]
    rintro m σ H5 ⟨fs1, c1, n1, vs1, v1, v5, v7, v8, rfl, s5, hB5, hF5, hv5, hn5, hd5, hp5, hfo5, hco5, hlt, rfl⟩
    have hcd5 : Cnd.dpt c1 ≤ 60 := Nat.le_trans (Nat.le_trans (Cnd.dpt_plug fs1 c1) (Nat.le_of_eq (congrArg Cnd.dpt hp5))) hdp
    refine ⟨_, rfl, !vs1.reverse.isEmpty, .inl ⟨_, sqL hB5, rfl⟩, ?_⟩
    match fs1, vs1, hF5 with
    | [], [], _ =>
      refine iteF ?_
      refine iteF ?_
      refine ⟨_, rfl, false, .inl ⟨_, sqL hB5, rfl⟩, ?_⟩
      refine iteT ?_
      refine ⟨_, rfl, _, rfl, (by show 2 ≤ sizeLine; decide), fun T nT => ?_⟩
      have sT := same_new (o := .tup [v1, iv n1]) nT
      have hp5 : c1 = c0 := hp5
      subst hp5
      refine q _ T v1 (s5.trans sT) (none_of s5 nT) ?_ (hv5.same sT)
      rw [upd_same]
      have h1 := congrArg List.length hd5
      have h2 := congrArg List.length hd0
      rw [List.length_drop] at h1 h2
      rw [List.length_append] at h2
      have h1 : xs.length - n1 = z.length := h1
      rw [show n1 = n0 + (Cnd.cTx c1).length by omega]
    | f :: fs1, v0 :: vs1, ⟨hf, hF5⟩ =>
      rw [show (!(v0 :: vs1).reverse.isEmpty) = true by rw [List.reverse_cons]; cases vs1.reverse <;> rfl]
      refine iteT ?_
      rw [List.reverse_cons] at hB5
      refine ⟨_, rfl, 1, rfl, B, _, -1, v0, rfl, rfl, sqL hB5, atI_last _ _, ?_⟩
      cases f with
      | no =>
        have hf : v0 = .str (Str.ofString "not") := hf
        subst hf
        refine ⟨.str (Str.ofString "not"), .str (Str.ofString "("), .str _, .str _, by decide +kernel, by decide +kernel, _, rfl, ?_⟩
        refine iteT ?_
        refine ⟨_, fun _ _ h => h, ?_⟩
        refine ⟨_, rfl, .inl ⟨rfl, _, sqL hB5⟩, B, _, _, rfl, rfl, hB5, get_last, ?_⟩
        rw [List.dropLast_concat]
        obtain ⟨H6, eH6⟩ : ∃ H6, H6 = upd H5 B (.lst vs1.reverse) := ⟨_, rfl⟩
        rw [← eH6]
        have s6 : Same H H6 := by rw [eH6]; exact same_put s5 nB
        have hB6 : H6 B = some (.lst vs1.reverse) := by rw [eH6]; exact upd_same
        have hF6 : FsV H6 fs1 vs1 := by rw [eH6]; exact hF5.keep (tup_keep hB5)
        have hv6 : CdH H6 c1 v1 := by rw [eH6]; exact hv5.keep (tup_keep hB5)
        try dsimp only [gName, tSeq, tAsg, List.set_cons_zero, List.set_cons_succ]
        refine ⟨_, rfl, .str (Str.ofString "not"), .str (Str.ofString "not"), .str _, .str _, by decide +kernel, by decide +kernel, _, rfl, ?_⟩
        refine iteT ?_
        refine ⟨_, rfl, (by show 2 ≤ sizeLine; decide), fun T nT => ?_⟩
        have sT := same_new (o := .tup [V.str (Str.ofString "not"), v1]) nT
        exact ⟨_, Nat.lt_succ_self _, fs1, .no c1, n1, vs1, .ref T, _, _, _, rfl, s6.trans sT, sT _ _ hB6, hF6.keep (fun a xs e => sT _ _ e), ⟨T, v1, rfl, upd_same, hv6.same sT⟩, hn5, hd5, hp5, fun f hf => hfo5 f (.tail _ hf), .no hco5, hlt, rfl⟩
      | lft w r =>
        have hf : v0 = .str (Str.ofString "(") := hf
        subst hf
        refine ⟨.str (Str.ofString "("), .str (Str.ofString "("), .str _, .str _, by decide +kernel, by decide +kernel, _, rfl, ?_⟩
        refine iteF ?_
        refine ⟨_, rfl, true, .inl ⟨_, sqL hB5, by cases vs1.reverse <;> rfl⟩, ?_⟩
        refine iteF ?_
        have hd5 : xs.drop n1 = 32 :: (Cnd.wdT w ++ (32 :: (Cnd.cTx r ++ (41 :: Cnd.rest z fs1)))) := hd5
        have hr := hfo5 _ (List.mem_cons_self ..)
        refine ⟨_, rfl, _, rfl, xs, _, n1, w, rfl, hd5, hn5, hl, fun H6 s6 => ?_⟩
        have hB6 := s6 _ _ hB5
        refine ⟨_, rfl, _, rfl, (by show 2 ≤ sizeLine; decide), fun T nT => ?_⟩
        have sT := same_new (o := .tup [V.str (wdS w), v1]) nT
        refine ⟨_, rfl, 1, rfl, B, _, -1, _, rfl, rfl, sT _ _ hB6, ixN_last, ?_⟩
        rw [set_last]
        obtain ⟨H7, eH7⟩ : ∃ H7, H7 = upd (upd H6 T (.tup [V.str (wdS w), v1])) B (.lst (vs1.reverse ++ [V.ref T])) := ⟨_, rfl⟩
        rw [← eH7]
        have kT : ∀ a xs, H5 a = some (.tup xs) → H7 a = some (.tup xs) := fun a xs e => by rw [eH7]; exact tup_keep (sT _ _ hB6) _ _ (sT _ _ (s6 _ _ e))
        have s7 : Same H H7 := by rw [eH7]; exact same_put (s5.trans (s6.trans sT)) nB
        have hT7 : H7 T = some (.tup [V.str (wdS w), v1]) := by rw [eH7]; exact tup_keep (sT _ _ hB6) _ _ upd_same
        have lw : (wdS w).length ≤ sizeLine := by cases w <;> (show _ ≤ sizeLine; decide)
        show tAug 4 _ _ _ _ _
        refine ⟨_, rfl, _, rfl, _, rfl, lw, _, _, rfl, rfl, _, _, rfl, rfl, ?_⟩
        have hlen5 := congrArg List.length hd5
        rw [List.length_drop, List.length_cons, List.length_append, List.length_cons] at hlen5
        have elw : (wdS w).length = (Cnd.wdT w).length := by rw [wdS_T, S_len]
        have ed : xs.drop (n1 + ((Cnd.wdT w).length + 2)) = Cnd.cTx r ++ Cnd.rest z (.rgt w c1 :: fs1) := by
          rw [← List.drop_drop, hd5]
          show (32 :: (Cnd.wdT w ++ (32 :: (Cnd.cTx r ++ (41 :: Cnd.rest z fs1))))).drop ((Cnd.wdT w).length + 1 + 1) = _
          rw [List.drop_succ_cons, ← List.drop_drop, List.drop_left]
          rfl
        refine ⟨_, hlt, .rgt w c1 :: fs1, r, n1 + ((Cnd.wdT w).length + 2), .ref T :: vs1, v5, some v1, v7, some (.str (wdS w)), ?_, s7, ?_, ⟨⟨T, v1, rfl, hT7, hv5.keep kT⟩, hF5.keep kT⟩, by omega, ed, hp5, ?_, hr, rfl⟩
        · show [some (tx gs), some (tx xs), some (iv n0), some (V.ref B), some (V.int ((n1 : Int) + ((wdS w).length + 2))), v5, some v1, v7, some (V.str (wdS w))] = _
          rw [elw, show ((n1 : Int) + (((Cnd.wdT w).length : Nat) + 2)) = ((n1 + ((Cnd.wdT w).length + 2) : Nat) : Int) by omega]
        · rw [eH7, upd_same, List.reverse_cons]
        · intro f hf
          rcases List.mem_cons.mp hf with e | h2
          · subst e
            exact hco5
          · exact hfo5 f (.tail _ h2)
      | rgt w l =>
        obtain ⟨a, x, rfl, ha, hx⟩ := hf
        have hl5 : OkS gs l := hfo5 _ (List.mem_cons_self ..)
        have hll := hl5.low hg
        have hdl : Cnd.dpt l ≤ 60 := Nat.le_trans (Nat.le_trans (Cnd.dpt_rgt (c := c1) (List.mem_cons_self ..)) (Nat.le_of_eq (congrArg Cnd.dpt hp5))) hdp
        refine ⟨.tuple [.str (wdS w), cdD l], .str (Str.ofString "("), .tup (sqT ha) (.cons (.str _) (.cons (dp_cd hx) .nil)), .str _, shp_pair hll hdl, by decide +kernel, _, rfl, ?_⟩
        refine iteT ?_
        refine ⟨_, fun _ _ h => h, ?_⟩
        refine ⟨_, rfl, .inl ⟨rfl, _, sqL hB5⟩, B, _, _, rfl, rfl, hB5, get_last, ?_⟩
        rw [List.dropLast_concat]
        obtain ⟨H6, eH6⟩ : ∃ H6, H6 = upd H5 B (.lst vs1.reverse) := ⟨_, rfl⟩
        rw [← eH6]
        have s6 : Same H H6 := by rw [eH6]; exact same_put s5 nB
        have hB6 : H6 B = some (.lst vs1.reverse) := by rw [eH6]; exact upd_same
        have hF6 : FsV H6 fs1 vs1 := by rw [eH6]; exact hF5.keep (tup_keep hB5)
        have hv6 : CdH H6 c1 v1 := by rw [eH6]; exact hv5.keep (tup_keep hB5)
        have ha6 : H6 a = some (.tup [.str (wdS w), x]) := by rw [eH6]; exact tup_keep hB5 _ _ ha
        have hx6 : CdH H6 l x := by rw [eH6]; exact hx.keep (tup_keep hB5)
        try dsimp only [gName, tSeq, tAsg, List.set_cons_zero, List.set_cons_succ]
        refine ⟨_, rfl, .tuple [.str (wdS w), cdD l], .str (Str.ofString "not"), .tup (sqT ha6) (.cons (.str _) (.cons (dp_cd hx6) .nil)), .str _, shp_pair hll hdl, by decide +kernel, _, rfl, ?_⟩
        refine iteF ?_
        have hd5 : xs.drop n1 = 41 :: Cnd.rest z fs1 := hd5
        refine ⟨_, rfl, rfl, _, rfl, S xs, S [41], _, rfl, rfl, _, rfl, ?_⟩
        rw [sw3 hn5, hd5]
        rw [decide_eq_true (show [41] <+: 41 :: Cnd.rest z fs1 from ⟨Cnd.rest z fs1, rfl⟩)]
        refine iteT ?_
        refine ⟨_, rfl, a, _, 0, _, rfl, rfl, sqT ha6, atI_nat (j := 0) rfl, _, rfl, a, _, 1, _, rfl, rfl, sqT ha6, atI_nat (j := 1) rfl, _, rfl, (by show 3 ≤ sizeLine; decide), fun T nT => ?_⟩
        have sT := same_new (o := .tup [V.str (wdS w), x, v1]) nT
        have hlen5 := congrArg List.length hd5
        rw [List.length_drop, List.length_cons] at hlen5
        refine ⟨_, rfl, _, _, rfl, rfl, ?_⟩
        refine ⟨_, Nat.lt_succ_self _, fs1, .two w l c1, n1 + 1, vs1, .ref T, _, _, _, rfl, s6.trans sT, sT _ _ hB6, hF6.keep (fun a xs e => sT _ _ e), ⟨T, x, v1, rfl, upd_same, hx6.same sT, hv6.same sT⟩, by omega, by rw [← List.drop_drop, hd5]; rfl, hp5, fun f hf => hfo5 f (.tail _ hf), .two hl5 hco5, hlt, rfl⟩
end
end Own

namespace Own
open PySem PySem.Spec PyProof.Rows L2 SX RZ
section
variable {P : Program} {w : World} {K : PySem.W.Frag} {mg : Str → Option Value} {base : Heap}
def spPrs : Sp := fun vs H Q _ => ∃ (gs : List Nat) (c : Cnd.Cd), vs = [tx gs, tx (Cnd.cTx c)] ∧ Good gs ∧ (Cnd.cTx c).length ≤ 100000 ∧ OkS gs c ∧ Cnd.dpt c ≤ 60 ∧ ∀ H' v, Same H H' → CdH H' c v → Q v H'
abbrev sPrs : Stmt := topS 74
abbrev prsN : List Str := ["letters", "text", "condition", "end"]
theorem scPrs : FnScope prsN ["letters", "text"] (defScope sPrs) := ⟨rfl, rfl, rfl, by decide +kernel, rfl, by decide +kernel, by decide +kernel⟩
theorem ok_prs {f : Addr} {fd : FuncData} (F : Fun K "parse_condition" "parse_condition" sPrs f fd) (m_len : mg "len" = none) {f1 : Addr} {fd1 : FuncData} (c1 : Cl P w K mg base "read_condition" 9 ["letters", "text", "at"] spRdc f1 fd1) :
    FnOk P w K mg base CX0 10 f fd ["letters", "text"] spPrs := by
  refine F.ok scPrs (fun vs H Q E h => ?_) (fun cdv A outer s H vs Q E hr h => ?_)
  · obtain ⟨gs, c, rfl, _⟩ := h
    rfl
  · obtain ⟨gs, c, rfl, hg, hl, hok, hdp, q⟩ := h
    refine ⟨_, (pss_cons (ps_asg (pe_cl c1 hr (by decide) (by rfl) (pa_cons (pv 0) (pa_cons (pv 1) (pa_cons pe_int pa_nil)))) (pg_tup rfl (pgs_cons (pg_name (i := 2) scPrs.nd rfl (by first | exact .inl rfl | exact .inr rfl)) (pgs_cons (pg_name (i := 3) scPrs.nd rfl (by first | exact .inl rfl | exact .inr rfl)) pgs_nil))))
      (pss_cons (ps_if (pt_cmpR op_ne (pv 3) (pe_callB call_len_str (by rfl) m_len PySem.boot_len (pa_cons (pv 1) pa_nil)) (nomark _)) pss_never pss_nil)
      (pss_one (ps_ret (pv 2))))), ?_⟩
    have hd : (Cnd.cTx c).drop 0 = Cnd.cTx c ++ [] := (List.append_nil _).symm
    refine ⟨_, rfl, _, rfl, gs, Cnd.cTx c, [], 0, c, rfl, hg, hd, Nat.zero_le _, hl, hok, hdp, fun _ _ h => (nomatch h), fun H1 p v s1 np hp hv => ?_⟩
    refine ⟨p, _, rfl, sqT hp, rfl, _, _, rfl, _, _, rfl, rfl, ?_⟩
    try dsimp only [gName, tSeq, tAsg, List.set_cons_zero, List.set_cons_succ]
    rw [Nat.zero_add]
    have lz : (S (Cnd.cTx c)).length ≤ sizeLine := by rw [S_len, sizeLine_eq]; omega
    refine ⟨_, rfl, _, rfl, _, rfl, lz, ?_⟩
    rw [S_len]
    refine ⟨rfl, _, rfl, ?_⟩
    rw [decide_eq_true rfl]
    refine iteF ?_
    exact ⟨_, rfl, q _ v s1 hv⟩
end
end Own

namespace Own
open PySem PySem.Spec PyProof.Rows L2 SX RZ
section
variable {P : Program} {w : World} {K : PySem.W.Frag} {mg : Str → Option Value} {base : Heap}
theorem cut_tl {x : V} {els : List V} : cutV (x :: els) (some 1) none = els := by
  unfold cutV
  rw [show (some (1 : Int)) = some ((1 : Nat) : Int) from rfl, HT.sIx_nat, HT.sIx_none, List.length_cons, Nat.min_eq_left (Nat.succ_le_succ (Nat.zero_le _))]
  show (List.drop 1 (x :: els)).take (els.length + 1 - 1) = els
  rw [Nat.add_sub_cancel]
  exact List.take_length
end
end Own

namespace Own
open PySem PySem.Spec PyProof.Rows L2 SX RZ
section
variable {P : Program} {w : World} {K : PySem.W.Frag} {mg : Str → Option Value} {base : Heap}
def addN (acc : List (List Nat)) (n : List Nat) : List (List Nat) := if n ∈ acc then acc else acc ++ [n]
def raw : Cnd.Cd → List (List Nat)
  | .named n => [n]
  | .no c => raw c
  | .two _ a b => raw a ++ raw b
  | _ => []
def nms : Cnd.Cd → List (List Nat)
  | .named n => [n]
  | .no c => nms c
  | .two _ a b => nms a ++ (nms b).filter (fun x => decide (x ∉ nms a))
  | _ => []
theorem raw_nms : ∀ (c : Cnd.Cd) (acc : List (List Nat)), (raw c).foldl addN acc = acc ++ (nms c).filter (fun x => decide (x ∉ acc))
  | .named n, acc => by
    show addN acc n = acc ++ [n].filter (fun x => decide (x ∉ acc))
    unfold addN
    by_cases h : n ∈ acc
    · rw [if_pos h, List.filter_cons_of_neg (by simpa using h)]
      simp
    · rw [if_neg h, List.filter_cons_of_pos (by simpa using h)]
      rfl
  | .no c, acc => raw_nms c acc
  | .two _ a b, acc => by
    show (raw a ++ raw b).foldl addN acc = acc ++ (nms a ++ (nms b).filter (fun x => decide (x ∉ nms a))).filter (fun x => decide (x ∉ acc))
    rw [List.foldl_append, raw_nms a, raw_nms b, List.filter_append, List.filter_filter, List.append_assoc]
    congr 2
    refine List.filter_congr fun x _ => ?_
    by_cases h : x ∈ acc
    · simp [h]
    · by_cases h2 : x ∈ nms a
      · simp [h, h2]
      · simp [h, h2]
  | .mat _, acc | .len _ _, acc | .tpl _ _ _ _ _, acc => by
    show acc = acc ++ []
    rw [List.append_nil]
theorem raw_all (c : Cnd.Cd) : (raw c).foldl addN [] = nms c := by
  rw [raw_nms]
  show (nms c).filter (fun x => decide (x ∉ [])) = nms c
  exact List.filter_eq_self.mpr fun x _ => by simp
abbrev nmV (l : List (List Nat)) : List (L2.Key × V) := l.map fun n => (Sum.inr (S n), V.bl true)
theorem put_nm (acc : List (List Nat)) (n : List Nat) : putK (nmV acc) (Sum.inr (S n)) (.bl true) = nmV (addN acc n) := by
  have e : ∀ x : List Nat, ((Sum.inr (S x) : L2.Key) = Sum.inr (S n)) ↔ x = n := fun x => ⟨fun e => S_inj (Sum.inr.inj e), fun e => by rw [e]⟩
  unfold addN putK
  by_cases h : n ∈ acc
  · rw [if_pos h, if_pos]
    · show (acc.map _).map _ = _
      rw [List.map_map]
      refine List.map_congr_left fun x hx => ?_
      show (if (Sum.inr (S x) : L2.Key) = Sum.inr (S n) then _ else _) = _
      split <;> rfl
    · rw [List.any_map]
      exact List.any_eq_true.mpr ⟨n, h, decide_eq_true rfl⟩
  · rw [if_neg h, if_neg]
    · show _ = (acc ++ [n]).map _
      rw [List.map_append]
      rfl
    · rw [List.any_map]
      intro k
      obtain ⟨x, hx, k⟩ := List.any_eq_true.mp k
      exact h ((e x).mp (of_decide_eq_true k) ▸ hx)
theorem addN_len (acc : List (List Nat)) (n : List Nat) : (addN acc n).length ≤ acc.length + 1 := by
  unfold addN
  split
  · omega
  · rw [List.length_append]; exact Nat.le_refl _
theorem walk_revT {K : PySem.W.Frag} {a : Addr} {xs : List V} : Walk (RT.ItvT K a xs.length) xs.length (fun H => SqT K H a xs) (fun i H x H' => H' = H ∧ xs[xs.length - 1 - i]? = some x) :=
  ⟨fun i _ hi q => ⟨hi, xs, xs[xs.length - 1 - i]'(by omega), q, by simp [show xs.length - 1 - i < xs.length by omega]⟩, fun _ _ => Nat.le_refl _, fun _ _ _ _ _ q y => ⟨y.1, y.2 _ q⟩⟩
def CsV (H : Hp) : List Cnd.Cd → List V → Prop
  | [], [] => True
  | c :: cs, v :: vs => CdH H c v ∧ CsV H cs vs
  | _, _ => False
theorem CsV.keep {H H' : Hp} (k : ∀ a xs, H a = some (.tup xs) → H' a = some (.tup xs)) : ∀ {cs : List Cnd.Cd} {vs : List V}, CsV H cs vs → CsV H' cs vs
  | [], [], h => h
  | _ :: _, _ :: _, ⟨h, i⟩ => ⟨h.keep k, i.keep k⟩
  | [], _ :: _, h => h.elim
  | _ :: _, [], h => h.elim
theorem CsV.len {H : Hp} : ∀ {cs : List Cnd.Cd} {vs : List V}, CsV H cs vs → cs.length = vs.length
  | [], [], _ => rfl
  | _ :: _, _ :: _, ⟨_, i⟩ => congrArg (· + 1) i.len
  | [], _ :: _, h => h.elim
  | _ :: _, [], h => h.elim
def csz (cs : List Cnd.Cd) : Nat := (cs.map Cnd.size).sum
theorem csz_len : ∀ cs : List Cnd.Cd, cs.length ≤ csz cs
  | [] => Nat.le_refl _
  | c :: cs => by
    have := csz_len cs
    have := Cnd.size_pos c
    show cs.length + 1 ≤ Cnd.size c + csz cs
    omega
theorem CsV.app {H : Hp} : ∀ {cs : List Cnd.Cd} {vs : List V} {ds : List Cnd.Cd} {ws : List V}, CsV H cs vs → CsV H ds ws → CsV H (cs ++ ds) (vs ++ ws)
  | [], [], _, _, _, h => h
  | _ :: _, _ :: _, _, _, ⟨h, i⟩, j => ⟨h, i.app j⟩
  | [], _ :: _, _, _, h, _ => h.elim
  | _ :: _, [], _, _, h, _ => h.elim
theorem tup_keepD {H : Hp} {B : Addr} {ys : List (L2.Key × V)} {o : HO} (hB : H B = some (.dK ys)) : ∀ a xs, H a = some (.tup xs) → upd H B o a = some (.tup xs) := fun a xs h => by
  rw [upd_ne (fun e => by rw [e, hB] at h; cases h)]
  exact h
abbrev kws3 : List V := [.str (Str.ofString "not"), .str (Str.ofString "and"), .str (Str.ofString "or")]
theorem kids {H : Hp} : ∀ {c : Cnd.Cd} {v : V}, CdH H c v → ∃ a k els, v = .ref a ∧ H a = some (.tup (.str k :: els)) ∧
    ((∃ n, c = .named n ∧ k = Str.ofString "named" ∧ els = [tx n]) ∨ (V.str k ≠ .str (Str.ofString "named") ∧ inV (.str k) kws3 = false ∧ raw c = []) ∨
      (V.str k ≠ .str (Str.ofString "named") ∧ inV (.str k) kws3 = true ∧ ∃ ds, CsV H ds els ∧ raw c = ds.flatMap raw ∧ csz ds < Cnd.size c ∧ 0 < els.length ∧ els.length ≤ 2))
  | .named n, _, ⟨a, e, h⟩ => ⟨a, _, _, e, h, .inl ⟨n, rfl, rfl, rfl⟩⟩
  | .mat p, _, ⟨a, e, h⟩ => ⟨a, _, _, e, h, .inr (.inl ⟨by decide +kernel, by decide +kernel, rfl⟩)⟩
  | .len r m, _, ⟨a, e, h⟩ => ⟨a, _, _, e, h, .inr (.inl ⟨by decide +kernel, by decide +kernel, rfl⟩)⟩
  | .tpl k _ _ x y, _, ⟨a, e, h⟩ => ⟨a, _, _, e, h, .inr (.inl (by
    match k with
    | 0 | 1 | 2 => exact ⟨by decide +kernel, by decide +kernel, rfl⟩
    | _ + 3 => exact ⟨(by decide +kernel : V.str (Str.ofString "less") ≠ .str (Str.ofString "named")), (by decide +kernel : inV (.str (Str.ofString "less")) kws3 = false), rfl⟩))⟩
  | .no c, _, ⟨a, x, e, h, i⟩ => ⟨a, _, _, e, h, .inr (.inr ⟨by decide +kernel, by decide +kernel, [c], ⟨i, True.intro⟩, (List.append_nil _).symm, Nat.lt_succ_self _, Nat.succ_pos _, Nat.le_succ _⟩)⟩
  | .two w c d, _, ⟨a, x, y, e, h, i, j⟩ => ⟨a, _, _, e, h, .inr (.inr ⟨by cases w <;> decide +kernel, by cases w <;> decide +kernel, [c, d], ⟨i, j, True.intro⟩, by show raw c ++ raw d = raw c ++ (raw d ++ []); rw [List.append_nil], by show Cnd.size c + (Cnd.size d + 0) < Cnd.size c + Cnd.size d + 1; omega, Nat.succ_pos _, Nat.le_refl _⟩)⟩
def spNms : Sp := fun vs H Q _ => ∃ (c : Cnd.Cd) (v : V), vs = [v] ∧ CdH H c v ∧ Cnd.size c ≤ 100000 ∧ ∀ H' p, Same H H' → H p = none → H' p = some (.lst ((nms c).map tx)) → Q (.ref p) H'
abbrev sNms : Stmt := topS 75
abbrev nmsN : List Str := ["condition", "names", "waiting", "now", "part"]
theorem scNms : FnScope nmsN ["condition"] (defScope sNms) := ⟨rfl, rfl, rfl, by decide +kernel, rfl, by decide +kernel, by decide +kernel⟩
theorem ok_nms {f : Addr} {fd : FuncData} (F : Fun K "condition_names" "condition_names" sNms f fd) (m_reversed : mg "reversed" = none) (m_list : mg "list" = none) :
    FnOk P w K mg base CX0 1 f fd ["condition"] spNms := by
  refine F.ok scNms (fun vs H Q E h => ?_) (fun cdv A outer s H vs Q E hr h => ?_)
  · obtain ⟨c, v, rfl, _⟩ := h
    rfl
  · obtain ⟨c0, v0, rfl, hv0, hsz, q⟩ := h
    have hu := hu_of hr
    refine ⟨_, (pss_cons (ps_set (i := 1) scNms.nd rfl (by first | exact .inl rfl | exact .inr rfl) pe_dnewK)
      (pss_cons (ps_set (i := 2) scNms.nd rfl (by first | exact .inl rfl | exact .inr rfl) (pe_lst (pa_cons (pv 0) pa_nil)))
      (pss_cons (ps_while PassesOwn.never (pt_truth (pv 2) (fun _ => rfl))
        (pss_cons (ps_set (i := 3) scNms.nd rfl (by first | exact .inl rfl | exact .inr rfl) (pe_bm0 PySem.F.plainAttrs_list PySem.F.slot_list_pop PySem.F.type_list_pop mt_pop (pv 2)))
      (pss_cons (ps_if (pt_cmpR op_eq (pe_ix (ixT (K := K) rfl) (pv 3) pe_int (fun _ _ => rfl)) pe_str (nomark _)) (pss_one (ps_dput hu (pv 1) (pe_ix (ixT (K := K) rfl) (pv 3) pe_int (fun _ _ => rfl)) pe_bl rfl)) pss_nil)
      (pss_one (ps_if (pt_cmpR op_in_seq (pe_ix (ixT (K := K) rfl) (pv 3) pe_int (fun _ _ => rfl)) (pe_tup (pa_cons pe_str (pa_cons pe_str (pa_cons pe_str pa_nil)))) (by rfl)) (pss_one (ps_for PassesOwn.never rfl (RT.pi_revA (by rfl) m_reversed (pe_slice sl_tup (pv 3) (po_some pe_int) po_none)) (pg_name (i := 4) scNms.nd rfl (by first | exact .inl rfl | exact .inr rfl))
        (pss_one (ps_expr (pe_bm PySem.F.plainAttrs_list PySem.F.slot_list_append PySem.F.type_list_append mt_append (pv 2) (pa_cons (pv 4) pa_nil)))))) pss_nil)))))
      (pss_one (ps_ret (pe_callTy (call_list_dK rfl) (by rfl) m_list (by decide +kernel) (pa_cons (pv 1) pa_nil))))))), ?_⟩
    refine fun D nD => ?_
    have sD := same_new (o := .dK []) nD
    have hD0 : upd H D (.dK []) D = some (.dK []) := upd_same
    generalize upd H D (.dK []) = HD at sD hD0 ⊢
    refine ⟨_, rfl, Nat.succ_le_of_lt (by decide), fun B nB => ?_⟩
    have sB := same_new (o := .lst [v0]) nB
    have nB0 := none_of sD nB
    have hBD : D ≠ B := fun e => by rw [e, nB] at hD0; cases hD0
    try dsimp only [gName, tSeq, tAsg, List.set_cons_zero, List.set_cons_succ]
    show tWhile _ _ _ [some v0, some (.ref D), some (.ref B), none, none] _
    refine ⟨fun m σ H' => ∃ (cs : List Cnd.Cd) (vs : List V) (acc : List (List Nat)) (v3 v4 : Option V), σ = [some v0, some (.ref D), some (.ref B), v3, v4] ∧ Same H H' ∧ H' D = some (.dK (nmV acc)) ∧ H' B = some (.lst vs.reverse) ∧ CsV H' cs vs ∧ (cs.flatMap raw).foldl addN acc = nms c0 ∧ acc.length + csz cs ≤ 100000 ∧ m = csz cs,
      ⟨_, [c0], [v0], [], none, none, rfl, sD.trans sB, sB _ _ hD0, upd_same, ⟨hv0.same (sD.trans sB), True.intro⟩, by show (raw c0 ++ []).foldl addN [] = _; rw [List.append_nil]; exact raw_all c0, by show 0 + (Cnd.size c0 + 0) ≤ _; omega, rfl⟩, ?_⟩
    rintro m σ H1 ⟨cs, vs, acc, v3, v4, rfl, s1, hD, hB, hC, hf, hz, rfl⟩
    refine ⟨_, rfl, !vs.reverse.isEmpty, .inl ⟨_, sqL hB, rfl⟩, ?_⟩
    match cs, vs, hC with
    | [], [], _ =>
      refine iteF ?_
      have hf : acc = nms c0 := hf
      subst hf
      refine ⟨_, rfl, D, _, rfl, hD, fun p np => ?_⟩
      have sp := same_new (o := .lst ((nmV (nms c0)).map fun kv => kV kv.1)) np
      refine q _ p (s1.trans sp) (none_of s1 np) ?_
      rw [upd_same, List.map_map]
      rfl
    | c :: cs, v :: vs, ⟨hc, hC⟩ =>
      rw [show (!(v :: vs).reverse.isEmpty) = true by rw [List.reverse_cons]; cases vs.reverse <;> rfl]
      refine iteT ?_
      rw [List.reverse_cons] at hB
      refine ⟨_, fun _ _ h => h, ?_⟩
      refine ⟨_, rfl, .inl ⟨rfl, _, sqL hB⟩, B, _, _, rfl, rfl, hB, get_last, ?_⟩
      rw [List.dropLast_concat]
      obtain ⟨H2, eH2⟩ : ∃ H2, H2 = upd H1 B (.lst vs.reverse) := ⟨_, rfl⟩
      rw [← eH2]
      have s2 : Same H H2 := by rw [eH2]; exact same_put s1 nB0
      have hB2 : H2 B = some (.lst vs.reverse) := by rw [eH2]; exact upd_same
      have hD2 : H2 D = some (.dK (nmV acc)) := by rw [eH2, upd_ne hBD]; exact hD
      have hC2 : CsV H2 cs vs := by rw [eH2]; exact hC.keep (tup_keep hB)
      have hc2 : CdH H2 c v := by rw [eH2]; exact hc.keep (tup_keep hB)
      clear hB hD hC hc eH2 s1
      have hsz0 : acc.length + (Cnd.size c + csz cs) ≤ 100000 := hz
      have hpos := Cnd.size_pos c
      have hcl := csz_len cs
      have hfl : (raw c ++ cs.flatMap raw).foldl addN acc = nms c0 := hf
      try dsimp only [gName, tSeq, tAsg, List.set_cons_zero, List.set_cons_succ]
      obtain ⟨a, k, els, rfl, ha, hk⟩ := kids hc2
      refine ⟨_, rfl, a, _, 0, _, rfl, rfl, sqT ha, atI_nat (j := 0) rfl, rfl, _, rfl, ?_⟩
      rcases hk with ⟨n, rfl, rfl, rfl⟩ | ⟨k1, k2, hr0⟩ | ⟨k1, k2, ds, hds, hr0, hlt, he0, he2⟩
      · rw [decide_eq_true rfl]
        refine iteT ?_
        refine ⟨_, rfl, _, rfl, a, _, 1, _, rfl, rfl, sqT ha, atI_nat (j := 1) rfl, D, _, rfl, DPut.k (k := Sum.inr (S n)) hD2 (by rw [List.length_map, sizeLine_eq]; omega), ?_⟩
        rw [put_nm]
        obtain ⟨H3, eH3⟩ : ∃ H3, H3 = upd H2 D (.dK (nmV (addN acc n))) := ⟨_, rfl⟩
        rw [← eH3]
        have s3 : Same H H3 := by rw [eH3]; exact same_put s2 nD
        have ha3 : H3 a = some (.tup [.str (Str.ofString "named"), tx n]) := by rw [eH3]; exact tup_keepD hD2 _ _ ha
        have hB3 : H3 B = some (.lst vs.reverse) := by rw [eH3, upd_ne (fun e => hBD e.symm)]; exact hB2
        have hC3 : CsV H3 cs vs := by rw [eH3]; exact hC2.keep (tup_keepD hD2)
        have hD3 : H3 D = some (.dK (nmV (addN acc n))) := by rw [eH3]; exact upd_same
        refine ⟨_, rfl, a, _, 0, _, rfl, rfl, sqT ha3, atI_nat (j := 0) rfl, (by show 3 ≤ sizeLine; decide), fun T nT => ⟨T, _, rfl, .inr (sqT upd_same), rfl, rfl, _, rfl, ?_⟩⟩
        have sT := same_new (o := .tup kws3) nT
        rw [show (if false = true then !inV (.str (Str.ofString "named")) kws3 else inV (.str (Str.ofString "named")) kws3) = false by decide +kernel]
        refine iteF ?_
        have hal := addN_len acc n
        exact ⟨_, by show csz cs < 1 + csz cs; omega, cs, vs, addN acc n, _, _, rfl, s3.trans sT, sT _ _ hD3, sT _ _ hB3, hC3.keep (fun a xs e => sT _ _ e), hfl, by have : acc.length + (1 + csz cs) ≤ 100000 := hsz0; omega, rfl⟩
      · rw [decide_eq_false k1]
        refine iteF ?_
        refine ⟨_, rfl, a, _, 0, _, rfl, rfl, sqT ha, atI_nat (j := 0) rfl, (by show 3 ≤ sizeLine; decide), fun T nT => ⟨T, _, rfl, .inr (sqT upd_same), rfl, rfl, _, rfl, ?_⟩⟩
        have sT := same_new (o := .tup kws3) nT
        rw [show (if false = true then !inV (.str k) kws3 else inV (.str k) kws3) = false from k2]
        refine iteF ?_
        rw [hr0] at hfl
        exact ⟨_, by show csz cs < Cnd.size c + csz cs; omega, cs, vs, acc, _, _, rfl, s2.trans sT, sT _ _ hD2, sT _ _ hB2, hC2.keep (fun a xs e => sT _ _ e), hfl, by omega, rfl⟩
      · rw [decide_eq_false k1]
        refine iteF ?_
        refine ⟨_, rfl, a, _, 0, _, rfl, rfl, sqT ha, atI_nat (j := 0) rfl, (by show 3 ≤ sizeLine; decide), fun T nT => ⟨T, _, rfl, .inr (sqT upd_same), rfl, rfl, _, rfl, ?_⟩⟩
        have sT := same_new (o := .tup kws3) nT
        rw [show (if false = true then !inV (.str k) kws3 else inV (.str k) kws3) = true from k2]
        refine iteT ?_
        have haT := sT _ _ ha
        have hDT := sT _ _ hD2
        have hBT := sT _ _ hB2
        have hCT := hC2.keep (fun a xs e => sT _ _ e)
        have hdT := hds.keep (fun a xs e => sT _ _ e)
        have s3 := s2.trans sT
        generalize upd H2 T _ = H3 at haT hDT hBT hCT hdT s3 ⊢
        refine ⟨_, rfl, _, rfl, a, _, rfl, sqT haT, ?_, fun U nU => ?_⟩
        · intro h
          have := h.1
          rw [show (some (1 : Int)) = some ((1 : Nat) : Int) from rfl, HT.sIx_nat, List.length_cons] at this
          omega
        rw [show cutV (V.str k :: els) (some 1) none = els from cut_tl]
        have sU := same_new (o := .tup els) nU
        have hU : upd H3 U (.tup els) U = some (.tup els) := upd_same
        have hDU := sU _ _ hDT
        have hBU := sU _ _ hBT
        have hCU := hCT.keep (fun a xs e => sU _ _ e)
        have hdU := hdT.keep (fun a xs e => sU _ _ e)
        have s4 := s3.trans sU
        generalize upd H3 U (.tup els) = H4 at hU hDU hBU hCU hdU s4 ⊢
        refine ⟨U, _, rfl, .inr ⟨sqT hU, ?_⟩⟩
        have nB4 := nB0
        have hUB : U ≠ B := fun e => by rw [e, hBU] at hU; cases hU
        refine for_it (walk_revT (K := K) (a := U) (xs := els)) (fun i σ H' => ∃ v4 : Option V, σ = [some v0, some (.ref D), some (.ref B), some (.ref a), v4] ∧ Same H H' ∧ H' D = some (.dK (nmV acc)) ∧ H' U = some (.tup els) ∧ H' B = some (.lst (vs.reverse ++ els.reverse.take i)) ∧ CsV H' cs vs ∧ CsV H' ds els)
          ⟨_, rfl, s4, hDU, hU, by rw [hBU, List.take_zero, List.append_nil], hCU, hdU⟩ (fun i σ H' _ h => by obtain ⟨_, _, _, _, h, _⟩ := h; exact sqT h) ?_ ?_
        · rintro i x σ H5 H6 hi ⟨v5, rfl, s5, hD5, hU5, hB5, hC5, hd5⟩ ⟨rfl, hx⟩
          have hvl : vs.length ≤ csz cs := by rw [← hC5.len]; exact csz_len cs
          have hxr : els.reverse[i]? = some x := by
            rw [List.getElem?_reverse hi]
            exact hx
          refine ⟨_, rfl, .inl ⟨rfl, _, sqL hB5⟩, _, rfl, B, _, _, rfl, rfl, hB5, by rw [List.length_append, List.length_reverse, List.length_take, sizeLine_eq]; omega, ?_⟩
          refine ⟨_, rfl, same_put s5 nB0, by rw [upd_ne hBD]; exact hD5, by rw [upd_ne hUB]; exact hU5, ?_, hC5.keep (tup_keep hB5), hd5.keep (tup_keep hB5)⟩
          rw [upd_same, List.take_add_one, hxr, List.append_assoc]
          rfl
        · rintro σ H5 ⟨v5, rfl, s5, hD5, hU5, hB5, hC5, hd5⟩
          rw [List.take_of_length_le (by rw [List.length_reverse]; exact Nat.le_refl _), ← List.reverse_append] at hB5
          have esz : csz (ds ++ cs) = csz ds + csz cs := by unfold csz; rw [List.map_append, List.sum_append]
          rw [hr0, ← List.flatMap_append] at hfl
          exact ⟨_, by show csz (ds ++ cs) < Cnd.size c + csz cs; omega, ds ++ cs, els ++ vs, acc, _, _, rfl, s5, hD5, hB5, hd5.app hC5, hfl, by omega, rfl⟩
end
end Own

namespace Own
open PySem PySem.Spec PyProof.Rows L2 SX RZ
section
variable {P : Program} {w : World} {K : PySem.W.Frag} {mg : Str → Option Value} {base : Heap}
theorem cut_tl2 {x y : V} {els : List V} : cutV (x :: y :: els) (some 2) none = els := by
  unfold cutV
  rw [show (some (2 : Int)) = some ((2 : Nat) : Int) from rfl, HT.sIx_nat, HT.sIx_none, List.length_cons, List.length_cons, Nat.min_eq_left (by omega)]
  show (List.drop 2 (x :: y :: els)).take (els.length + 1 + 1 - 2) = els
  rw [show els.length + 1 + 1 - 2 = els.length by omega]
  exact List.take_length
def spPo : Sp := fun vs H Q _ => ∃ (v : V) (ps : List V), vs = [v] ∧ PrtH H v ps ∧ ∀ H' p, Same H H' → H p = none → H' p = some (.tup ps) → Q (.ref p) H'
abbrev sPo : Stmt := topS 91
abbrev poN : List Str := ["program"]
theorem scPo : FnScope poN ["program"] (defScope sPo) := ⟨rfl, rfl, rfl, by decide +kernel, rfl, by decide +kernel, by decide +kernel⟩
theorem ok_po {f : Addr} {fd : FuncData} (F : Fun K "parts_of" "parts_of" sPo f fd) {AK : Addr} (gA : mg "ASKING_KINDS" = some (.ref AK)) (uA : ∀ H, SqT K H AK [.str (Str.ofString "if"), .str (Str.ofString "while")]) :
    FnOk P w K mg base CX0 1 f fd ["program"] spPo := by
  refine F.ok scPo (fun vs H Q E h => ?_) (fun cdv A outer s H vs Q E hr h => ?_)
  · obtain ⟨v, ps, rfl, _⟩ := h
    rfl
  · obtain ⟨v, ps, rfl, hp, q⟩ := h
    refine ⟨_, (pss_cons (ps_if (pt_cmpR op_eq (pe_ix (ixT (K := K) rfl) (pv 0) pe_int (fun _ _ => rfl)) pe_str (nomark _)) (pss_one (ps_ret (pe_slice sl_tup (pv 0) (po_some pe_int) po_none))) pss_nil)
      (pss_cons (ps_if (pt_cmpR op_in_seq (pe_ix (ixT (K := K) rfl) (pv 0) pe_int (fun _ _ => rfl)) (pe_glob (v := .ref AK) (by rfl) gA rfl) (by rfl)) (pss_one (ps_ret (pe_slice sl_tup (pv 0) (po_some pe_int) po_none))) pss_nil)
      (pss_one (ps_ret (pe_tup pa_nil))))), ?_⟩
    obtain ⟨a, kd, xs, rfl, ha, hx, hk⟩ := hp
    have sz : ∀ n : Nat, n ≤ 2000 → n ≤ sizeLine := fun n hn => by rw [sizeLine_eq]; omega
    refine ⟨_, rfl, a, _, 0, _, rfl, rfl, sqT ha, atI_nat (j := 0) rfl, rfl, _, rfl, ?_⟩
    rcases hk with ⟨rfl, rfl⟩ | hk
    · rw [decide_eq_true rfl]
      refine iteT ?_
      refine ⟨_, rfl, _, rfl, a, _, rfl, sqT ha, ?_, fun U nU => ?_⟩
      · intro h
        have := h.1
        rw [show (some (1 : Int)) = some ((1 : Nat) : Int) from rfl, HT.sIx_nat, List.length_cons] at this
        omega
      rw [cut_tl]
      exact q _ U (same_new nU) nU upd_same
    have ne : kd ≠ Str.ofString "block" := by
      rcases hk with ⟨h, _⟩ | ⟨h, _⟩
      · rcases h with rfl | rfl <;> decide +kernel
      · rcases h with rfl | rfl | rfl | rfl <;> decide +kernel
    rw [decide_eq_false (fun e => ne (V.str.inj e))]
    refine iteF ?_
    refine ⟨_, rfl, a, _, 0, _, rfl, rfl, sqT ha, atI_nat (j := 0) rfl, _, _, rfl, .inr (uA _), rfl, rfl, _, rfl, ?_⟩
    rcases hk with ⟨h, c, rfl⟩ | ⟨h, rfl⟩
    · rw [show (if false = true then !inV (.str kd) [.str (Str.ofString "if"), .str (Str.ofString "while")] else inV (.str kd) [.str (Str.ofString "if"), .str (Str.ofString "while")]) = true by rcases h with rfl | rfl <;> decide +kernel]
      refine iteT ?_
      refine ⟨_, rfl, _, rfl, a, _, rfl, sqT ha, ?_, fun U nU => ?_⟩
      · intro h
        have := h.1
        rw [show (some (2 : Int)) = some ((2 : Nat) : Int) from rfl, HT.sIx_nat, List.length_cons, List.length_cons] at this
        omega
      rw [cut_tl2]
      exact q _ U (same_new nU) nU upd_same
    · rw [show (if false = true then !inV (.str kd) [.str (Str.ofString "if"), .str (Str.ofString "while")] else inV (.str kd) [.str (Str.ofString "if"), .str (Str.ofString "while")]) = false by rcases h with rfl | rfl | rfl | rfl <;> decide +kernel]
      refine iteF ?_
      exact ⟨Nat.zero_le _, fun U nU => q _ U (same_new nU) nU upd_same⟩
end
end Own

namespace Own
open PySem PySem.Spec PyProof.Rows L2 SX RZ
section
variable {P : Program} {w : World} {K : PySem.W.Frag} {mg : Str → Option Value} {base : Heap}

/-! ### nodes_of: a generator -/
abbrev sNo : Stmt := topS 92
abbrev noN : List Str := ["program", "waiting", "now", "part"]
theorem scNo : L2.GScope noN ["program"] (defScope sNo) := ⟨rfl, rfl, rfl, by decide +kernel, rfl, by decide +kernel, by decide +kernel⟩
def spNd : SpT := fun vs H out => ∃ v, vs = [v] ∧ Nod H v out ∧ out.length ≤ 100000
theorem wake_at {H0 H : Hp} {B : Addr} : wakeH H0 H [B] B = H B := by unfold wakeH; rw [if_pos (List.mem_singleton.mpr rfl)]
theorem wake_same {H0 H : Hp} {B : Addr} (n : H0 B = none) : Same H0 (wakeH H0 H [B]) := fun b o e => by
  unfold wakeH
  rw [if_neg (fun z => by rw [List.mem_singleton.mp z, n] at e; cases e)]
  exact e
theorem paired_appN {α β : Type} {F : α → β → Prop} : ∀ {l : List α} {m : List β} {l2 : List α} {m2 : List β}, Paired F l m → Paired F l2 m2 → Paired F (l ++ l2) (m ++ m2)
  | _, _, _, _, .nil, h => h
  | _, _, _, _, .cons a t, h => .cons a (paired_appN t h)
theorem ok_no {f f1 : Addr} {fd fd1 : FuncData} (F : Fun K "nodes_of" "nodes_of" sNo f fd) (m_reversed : mg "reversed" = none) (c1 : Cl P w K mg base "parts_of" 1 ["program"] spPo f1 fd1) :
    GFn2 P w K mg base 2 f fd ["program"] ["waiting"] spNd := by
  obtain ⟨oc, od, kV, doc, pm, an, cdv, ct, osl, rfl, lk, hcd⟩ := F.ex
  refine gfn2_of lk hcd scNo (fun _ => rfl) (fun x hx => by rw [List.mem_singleton.mp hx]; decide +kernel) (fun vs H out h => ?_) fun A outer s H vs out a go hr G h => ?_
  · obtain ⟨v, rfl, _⟩ := h
    rfl
  · obtain ⟨v0, rfl, hn, hl⟩ := h
    have ow := owns_gcx (P := P) (w := w) (K := K) (mg := mg) (base := base) (N := noN) (qual := Str.ofString "nodes_of") (scope := defScope sNo) (f := f) (cd := cdv) (A := A) (outer := outer) (s := s) (H := H) (E := EN) (pn := [(a, go)])
    refine ⟨_, d2_cons (d2_plain fun _ => ps_set (i := 1) scNo.nd rfl (by first | exact .inl rfl | exact .inr rfl) (pe_lst (pa_cons (pv 0) pa_nil)))
      (d2_last (d2_while ow (fun s0 => pt_truthF (K := K) (X := rr _ s0) rfl (pv 1) (fun _ => rfl))
        (d2_cons (d2_plain fun s0 => ps_set (X := rr _ s0) (i := 2) scNo.nd rfl (by first | exact .inl rfl | exact .inr rfl) (pe_bm0F (K := K) rfl PySem.F.plainAttrs_list PySem.F.slot_list_pop PySem.F.type_list_pop mt_pop (pv 1)))
        (d2_cons (d2_yield (ws := fun σ _ => match σ.getD 1 none with | some (.ref w) => [w] | _ => []) G (fun _ => pv 2))
        (d2_last (d2_plain fun _ => ps_for ow rfl (pi_revF (K := K) rfl (by rfl) m_reversed (pe_cl c1 hr (by decide) (by rfl) (pa_cons (pv 2) pa_nil))) (pg_name (i := 3) scNo.nd rfl (by first | exact .inl rfl | exact .inr rfl))
          (pss_one (ps_expr (pe_bmF (K := K) rfl PySem.F.plainAttrs_list PySem.F.slot_list_append PySem.F.type_list_append mt_append (pv 1) (pa_cons (pv 3) pa_nil)))))))))), ?_⟩
    refine ⟨_, rfl, Nat.succ_le_of_lt (by decide), fun B nB => ?_⟩
    have sB := same_new (o := .lst [v0]) nB
    try dsimp only [gName, tSeq, tAsg, List.set_cons_zero, List.set_cons_succ]
    refine ⟨fun m k σ H' => ∃ (st : List V) (outs : List (List V)) (x2 x3 : Option V), σ = [some v0, some (.ref B), x2, x3] ∧ Same H H' ∧ H' B = some (.lst st.reverse) ∧ Paired (Nod H) st outs ∧ out.drop k = outs.flatten ∧ k ≤ out.length ∧ m = outs.flatten.length,
      ⟨_, [v0], [out], none, none, rfl, sB, upd_same, .cons hn .nil, by simp, Nat.zero_le _, rfl⟩, ?_⟩
    rintro m k σ H1 ⟨st, outs, x2, x3, rfl, s1, hB, hP, hd, hk, rfl⟩
    refine ⟨_, rfl, !st.reverse.isEmpty, .inl ⟨_, sqL hB, rfl⟩, ?_⟩
    have hlen : outs.flatten.length ≤ 100000 := by rw [← hd, List.length_drop]; omega
    cases hP with
    | nil =>
      refine iteF ?_
      rw [List.flatten_nil] at hd
      have : (out.drop k).length = 0 := by rw [hd]; rfl
      rw [List.length_drop] at this
      exact ⟨by omega, s1⟩
    | @cons v o st outs hv hP =>
      obtain ⟨ps, os, hp, hk2, rfl⟩ := hv.inv
      rw [show (!(v :: st).reverse.isEmpty) = true by rw [List.reverse_cons]; cases st.reverse <;> rfl]
      refine iteT ?_
      rw [List.reverse_cons] at hB
      refine ⟨_, fun _ _ _ h => h, ?_⟩
      refine ⟨_, rfl, .inl ⟨rfl, _, sqL hB⟩, B, _, _, rfl, rfl, hB, get_last, ?_⟩
      rw [List.dropLast_concat]
      obtain ⟨H2, eH2⟩ : ∃ H2, H2 = upd H1 B (.lst st.reverse) := ⟨_, rfl⟩
      rw [← eH2]
      have s2 : Same H H2 := by rw [eH2]; exact same_put s1 nB
      have hB2 : H2 B = some (.lst st.reverse) := by rw [eH2]; exact upd_same
      clear hB eH2 s1
      have hd1 : out.drop k = v :: (os.flatten ++ outs.flatten) := hd
      have hlt : k < out.length := by
        have := congrArg List.length hd1
        rw [List.length_drop, List.length_cons] at this
        omega
      have hov : out[k]? = some v := by
        have := congrArg (fun l => l[0]?) hd1
        simpa using this
      have hd2 : out.drop (k + 1) = os.flatten ++ outs.flatten := by rw [← List.drop_drop, hd1]; rfl
      refine ⟨by rw [sizeLine_eq]; omega, _, rfl, hov, s2, .cons ⟨1, rfl, rfl, (show (defScope sNo).names.lookup (Str.ofString "waiting") = some .local by decide +kernel), ⟨_, hB2⟩, nB⟩ .nil, ?_⟩
      suffices hh : ∀ HW, Same H HW → HW B = some (.lst st.reverse) → (tSame (tFor (RT.iRevA K (tCall spPo [] E0 (tCons (tVar 2) tNil))) (gName 3) (tDrop (tBM K "list" rAppend (tVar 1) (tCons (tVar 3) tNil))))) _ (k + 1) [some v0, some (.ref B), some v, x3] HW from hh (wakeH H H2 [B]) (wake_same nB) (by rw [wake_at]; exact hB2)
      intro HW sW hBW
      clear s2 hB2
      refine ⟨_, rfl, v, ps, rfl, hp.keep (fun a xs e => sW _ _ e), fun H3 p s3 np hps => ⟨p, _, rfl, .inr ⟨sqT hps, ?_⟩⟩⟩
      have hB3 := s3 _ _ hBW
      have s4 := sW.trans s3
      have hl2 : ps.length ≤ os.flatten.length := by
        clear hd hd1 hd2 hv hp hps hlen
        induction hk2 with
        | nil => exact Nat.le_refl _
        | cons e _ ih =>
          obtain ⟨_, _, _, _, rfl⟩ := e.inv
          rw [List.flatten_cons, List.length_append, List.length_cons, List.length_cons]
          omega
      have hl3 : st.length ≤ outs.flatten.length := by
        clear hd hd1 hd2 hv hp hps hlen hBW hB3
        induction hP with
        | nil => exact Nat.le_refl _
        | cons e _ ih =>
          obtain ⟨_, _, _, _, rfl⟩ := e.inv
          rw [List.flatten_cons, List.length_append, List.length_cons, List.length_cons]
          omega
      have hlen2 : os.flatten.length + outs.flatten.length ≤ 100000 := by
        have := congrArg List.length hd2
        rw [List.length_drop, List.length_append] at this
        omega
      have hpB : p ≠ B := fun e => by rw [e, hB3] at hps; cases hps
      refine for_it (walk_revT (K := K) (a := p) (xs := ps)) (fun i σ H' => ∃ v4 : Option V, σ = [some v0, some (.ref B), some v, v4] ∧ Same H H' ∧ H' p = some (.tup ps) ∧ H' B = some (.lst (st.reverse ++ ps.reverse.take i)))
        ⟨_, rfl, s4, hps, by rw [hB3, List.take_zero, List.append_nil]⟩ (fun i σ H' _ h => by obtain ⟨_, _, _, h, _⟩ := h; exact sqT h) ?_ ?_
      · rintro i x σ H5 H6 hi ⟨v5, rfl, s5, hp5, hB5⟩ ⟨rfl, hx⟩
        have hxr : ps.reverse[i]? = some x := by
          rw [List.getElem?_reverse hi]
          exact hx
        refine ⟨_, rfl, .inl ⟨rfl, _, sqL hB5⟩, _, rfl, B, _, _, rfl, rfl, hB5, by rw [List.length_append, List.length_reverse, List.length_take, sizeLine_eq]; omega, ?_⟩
        refine ⟨_, rfl, same_put s5 nB, by rw [upd_ne hpB]; exact hp5, ?_⟩
        rw [upd_same, List.take_add_one, hxr, List.append_assoc]
        rfl
      · rintro σ H5 ⟨v5, rfl, s5, hp5, hB5⟩
        rw [List.take_of_length_le (by rw [List.length_reverse]; exact Nat.le_refl _), ← List.reverse_append] at hB5
        refine ⟨(os.flatten ++ outs.flatten).length, ?_, ps ++ st, os ++ outs, _, _, rfl, s5, hB5, ?_, ?_, hlt, ?_⟩
        · show _ < ((v :: os.flatten) ++ outs.flatten).length
          rw [List.length_append, List.length_append, List.length_cons]; omega
        · exact paired_appN hk2 hP
        · rw [hd2, List.flatten_append]
        · rw [List.flatten_append]
end
end Own

namespace Own
open PySem PySem.Spec PyProof.Rows L2 SX RZ
section
variable {P : Program} {w : World} {K : PySem.W.Frag} {mg : Str → Option Value} {base : Heap}
def NodeN (H : Hp) (x : V) (ns : List (List Nat)) : Prop := ∃ a kd xs, x = .ref a ∧ H a = some (.tup (.str kd :: xs)) ∧
  ((kd = Str.ofString "call" ∧ ∃ n, xs = [tx n] ∧ ns = [n]) ∨ ((kd = Str.ofString "if" ∨ kd = Str.ofString "while") ∧ ∃ c y zs, xs = y :: zs ∧ CdH H c y ∧ Cnd.size c ≤ 100000 ∧ ns = nms c) ∨
   ((kd = Str.ofString "skip" ∨ kd = Str.ofString "fill" ∨ kd = Str.ofString "fail" ∨ kd = Str.ofString "block") ∧ ns = []))
theorem NodeN.keep {H H' : Hp} {x : V} {ns : List (List Nat)} (k : ∀ a xs, H a = some (.tup xs) → H' a = some (.tup xs)) (h : NodeN H x ns) : NodeN H' x ns := by
  obtain ⟨a, kd, xs, e, h1, h2⟩ := h
  refine ⟨a, kd, xs, e, k _ _ h1, ?_⟩
  rcases h2 with h2 | ⟨h2, c, y, zs, e1, h3, h4⟩ | h2
  · exact .inl h2
  · exact .inr (.inl ⟨h2, c, y, zs, e1, h3.keep k, h4⟩)
  · exact .inr (.inr h2)
def spPnm : Sp := fun vs H Q _ => ∃ (v : V) (out : List V) (nss : List (List (List Nat))), vs = [v] ∧ Nod H v out ∧ out.length ≤ 100000 ∧ Paired (NodeN H) out nss ∧ nss.flatten.length ≤ 100000 ∧
  ∀ H' p, Same H H' → H p = none → H' p = some (.lst ((nss.flatten.foldl addN []).map tx)) → Q (.ref p) H'
abbrev sPnm : Stmt := topS 93
abbrev pnmN : List Str := ["program", "names", "node", "name"]
theorem scPnm : FnScope pnmN ["program"] (defScope sPnm) := ⟨rfl, rfl, rfl, by decide +kernel, rfl, by decide +kernel, by decide +kernel⟩
theorem ok_pnm {f : Addr} {fd : FuncData} (F : Fun K "program_names" "program_names" sPnm f fd) {f1 : Addr} {fd1 : FuncData} (c1 : Cl P w K mg base "condition_names" 1 ["condition"] spNms f1 fd1) {fN : Addr} {fdN : FuncData} (GN : GFn2 P w K mg base 2 fN fdN ["program"] ["waiting"] spNd) (gN : mg "nodes_of" = some (.ref fN)) (kN : PySem.W.keepIn K (.ref fN) = true) (bN : Binds K fdN ["program"] []) (m_list : mg "list" = none) {AK : Addr} (gA : mg "ASKING_KINDS" = some (.ref AK)) (uA : ∀ H, SqT K H AK [.str (Str.ofString "if"), .str (Str.ofString "while")]) :
    FnOk P w K mg base CX0 6 f fd ["program"] spPnm := by
  refine F.ok scPnm (fun vs H Q E h => ?_) (fun cdv A outer s H vs Q E hr h => ?_)
  · obtain ⟨v, out, nss, rfl, _⟩ := h
    rfl
  · obtain ⟨v0, out, nss, rfl, hn, hl, hp, hz, q⟩ := h
    have hu := hu_of hr
    refine ⟨_, (pss_cons (ps_set (i := 1) scPnm.nd rfl (by first | exact .inl rfl | exact .inr rfl) pe_dnewK)
      (pss_cons (ps_forG PassesOwn.never (GF.never fun _ _ h => h) rfl (pgn2_call GN (hr.mono (by decide)) (by rfl) gN kN bN (pa_cons (pv 0) pa_nil)) (hr.mono (by decide)) (pg_name (i := 2) scPnm.nd rfl (by first | exact .inl rfl | exact .inr rfl))
        (pss_cons (ps_if (pt_cmpR op_eq (pe_ix (ixT (K := K) rfl) (pv 2) pe_int (fun _ _ => rfl)) pe_str (nomark _)) (pss_one (ps_dput hu (pv 1) (pe_ix (ixT (K := K) rfl) (pv 2) pe_int (fun _ _ => rfl)) pe_bl rfl)) pss_nil)
      (pss_one (ps_if (pt_cmpR op_in_seq (pe_ix (ixT (K := K) rfl) (pv 2) pe_int (fun _ _ => rfl)) (pe_glob (v := .ref AK) (by rfl) gA rfl) (by rfl)) (pss_one (ps_for PassesOwn.never rfl (pi_list (pe_cl c1 hr (by decide) (by rfl) (pa_cons (pe_ix (ixT (K := K) rfl) (pv 2) pe_int (fun _ _ => rfl)) pa_nil))) (pg_name (i := 3) scPnm.nd rfl (by first | exact .inl rfl | exact .inr rfl))
        (pss_one (ps_dput hu (pv 1) (pv 3) pe_bl rfl)))) pss_nil))))
      (pss_one (ps_ret (pe_callTy (call_list_dK rfl) (by rfl) m_list (by decide +kernel) (pa_cons (pv 1) pa_nil)))))), ?_⟩
    refine fun D nD => ?_
    have sD := same_new (o := .dK []) nD
    have hD0 : upd H D (.dK []) D = some (.dK []) := upd_same
    generalize upd H D (.dK []) = HD at sD hD0 ⊢
    try dsimp only [gName, tSeq, tAsg, List.set_cons_zero, List.set_cons_succ]
    have nn := hn.keep (H' := tupsOf HD) fun a xs e => tupsOf_get (sD _ _ e)
    have addl : ∀ (l : List (List Nat)) (acc : List (List Nat)), (l.foldl addN acc).length ≤ acc.length + l.length := by
      intro l
      induction l with
      | nil => intro acc; exact Nat.le_refl _
      | cons n l ih =>
        intro acc
        have h1 := ih (addN acc n)
        have h2 : (addN acc n).length ≤ acc.length + 1 := by
          unfold addN
          split
          · omega
          · rw [List.length_append]; exact Nat.le_refl _
        rw [List.foldl_cons, List.length_cons]
        omega
    have sz : ∀ k : Nat, k ≤ 100000 → k < sizeLine := fun k hk => by rw [sizeLine_eq]; omega
    have tl : ∀ i, (nss.take i).flatten.length ≤ 100000 := fun i => by
      refine Nat.le_trans ?_ hz
      have := congrArg (fun l => l.flatten.length) (List.take_append_drop i nss)
      rw [List.flatten_append, List.length_append] at this
      omega
    refine ⟨_, rfl, out, ⟨v0, rfl, nn, hl⟩, fun i σ H' => ∃ x2 x3, σ = [some v0, some (.ref D), x2, x3] ∧ Same H H' ∧ KeepT HD H' ∧ H' D = some (.dK (nmV ((nss.take i).flatten.foldl addN []))),
      ⟨none, none, rfl, sD, fun _ _ e => e, by rw [hD0]; rfl⟩, fun i σ H' h => (by obtain ⟨_, _, _, _, h, _⟩ := h; exact h), ?_, ?_⟩
    · rintro i x σ H1 hx ⟨x2, x3, rfl, s1, k1, hD1⟩
      obtain ⟨ns, hns⟩ : ∃ ns, nss[i]? = some ns := by
        have hlt := (List.getElem?_eq_some_iff.mp hx).1
        rw [hp.length] at hlt
        exact ⟨_, List.getElem?_eq_getElem hlt⟩
      have hN : NodeN H x ns := by
        have aux : ∀ {l : List V} {m : List (List (List Nat))} {i : Nat}, Paired (NodeN H) l m → l[i]? = some x → m[i]? = some ns → NodeN H x ns := by
          intro l m i p
          induction p generalizing i with
          | nil => intro h; cases h
          | cons e _ ih =>
            intro h1 h2
            cases i with
            | zero => cases h1; cases h2; exact e
            | succ i => exact ih h1 h2
        exact aux hp hx hns
      have hN1 := hN.keep fun a xs e => s1 _ _ e
      have et : (nss.take (i + 1)).flatten = (nss.take i).flatten ++ ns := by rw [List.take_add_one, hns, List.flatten_append]; simp
      have hacc := addl (nss.take i).flatten []
      have htl := tl (i + 1)
      rw [et, List.length_append] at htl
      generalize hA : (nss.take i).flatten.foldl addN [] = acc at hD1 hacc
      have hacc : acc.length ≤ (nss.take i).flatten.length := by rw [List.length_nil, Nat.zero_add] at hacc; exact hacc
      have fin : ∀ (H2 : Hp) (y : Option V), Same H H2 → KeepT HD H2 → H2 D = some (.dK (nmV (ns.foldl addN acc))) → ∀ Hd, Drp HD H2 Hd → ∃ x2 x3, [some v0, some (.ref D), some x, y] = [some v0, some (.ref D), x2, x3] ∧ Same H Hd ∧ KeepT HD Hd ∧ Hd D = some (.dK (nmV ((nss.take (i + 1)).flatten.foldl addN []))) := fun H2 y s2 k2 hD2 Hd dr => by
        refine ⟨_, _, rfl, fun b o e => dr.2 b o (s2 b o e) (.inl ⟨o, sD b o e⟩), fun b xs e => dr.2 b _ (k2 b xs e) (.inr trivial), ?_⟩
        rw [et, List.foldl_append, hA]
        exact dr.2 D _ hD2 (.inl ⟨_, hD0⟩)
      obtain ⟨a, kd, xs, rfl, ha, hk⟩ := hN1
      refine ⟨_, rfl, a, _, 0, _, rfl, rfl, sqT ha, atI_nat (j := 0) rfl, rfl, _, rfl, ?_⟩
      rcases hk with ⟨rfl, n, rfl, rfl⟩ | ⟨hk, c, y, zs, rfl, hc, hsc, rfl⟩ | ⟨hk, rfl⟩
      · rw [decide_eq_true rfl]
        refine iteT ?_
        refine ⟨_, rfl, _, rfl, a, _, 1, _, rfl, rfl, sqT ha, atI_nat (j := 1) rfl, D, _, rfl, DPut.k (k := Sum.inr (S n)) hD1 (by rw [List.length_map]; exact sz _ (by omega)), ?_⟩
        rw [put_nm]
        have aD : a ≠ D := fun e => by
          rw [e] at ha
          have z : some (HO.dK (nmV acc)) = some (.tup _) := hD1.symm.trans ha
          cases z
        have s2 : Same H (upd H1 D (.dK (nmV (addN acc n)))) := same_put s1 nD
        have k2 : KeepT HD (upd H1 D (.dK (nmV (addN acc n)))) := fun b xs e => tup_keepD hD1 _ _ (k1 b xs e)
        have ha2 : upd H1 D (.dK (nmV (addN acc n))) a = some (.tup [.str (Str.ofString "call"), tx n]) := by rw [upd_ne aD]; exact ha
        have hD2 : upd H1 D (.dK (nmV (addN acc n))) D = some (.dK (nmV (addN acc n))) := upd_same
        generalize upd H1 D (.dK (nmV (addN acc n))) = H2 at s2 k2 ha2 hD2 ⊢
        refine ⟨_, rfl, a, _, 0, _, rfl, rfl, sqT ha2, atI_nat (j := 0) rfl, _, _, rfl, .inr (uA _), rfl, rfl, _, rfl, ?_⟩
        rw [show (if false = true then !inV (.str (Str.ofString "call")) [.str (Str.ofString "if"), .str (Str.ofString "while")] else inV (.str (Str.ofString "call")) [.str (Str.ofString "if"), .str (Str.ofString "while")]) = false by decide +kernel]
        refine iteF ?_
        exact fin H2 x3 s2 k2 hD2
      · have nk : kd ≠ Str.ofString "call" := by rcases hk with rfl | rfl <;> decide +kernel
        rw [decide_eq_false (fun e => nk (V.str.inj e))]
        refine iteF ?_
        refine ⟨_, rfl, a, _, 0, _, rfl, rfl, sqT ha, atI_nat (j := 0) rfl, _, _, rfl, .inr (uA _), rfl, rfl, _, rfl, ?_⟩
        rw [show (if false = true then !inV (.str kd) [.str (Str.ofString "if"), .str (Str.ofString "while")] else inV (.str kd) [.str (Str.ofString "if"), .str (Str.ofString "while")]) = true by rcases hk with rfl | rfl <;> decide +kernel]
        refine iteT ?_
        refine ⟨_, rfl, a, _, 1, _, rfl, rfl, sqT ha, atI_nat (j := 1) rfl, c, y, rfl, hc, hsc, fun H2 p s2 np hp2 => ?_⟩
        refine ⟨_, rfl, ⟨_, sqL hp2⟩, ?_⟩
        have hD2 := s2 _ _ hD1
        have pD : p ≠ D := fun e => by rw [e, hD2] at hp2; cases hp2
        refine for_it (walk_list (K := K) (a := p) (xs := (nms c).map tx)) (fun j σ H' => ∃ y, σ = [some v0, some (.ref D), some (.ref a), y] ∧ Same H H' ∧ KeepT HD H' ∧ H' p = some (.lst ((nms c).map tx)) ∧ H' D = some (.dK (nmV (((nms c).take j).foldl addN acc))))
          ⟨_, rfl, s1.trans s2, fun b xs e => s2 _ _ (k1 b xs e), hp2, hD2⟩ (fun i σ H' _ h => by obtain ⟨_, _, _, _, h, _⟩ := h; exact sqL h) ?_ ?_
        · rintro j z σ H5 H6 hj ⟨y5, rfl, s5, k5, hp5, hD5⟩ ⟨rfl, hz5⟩
          rw [List.length_map] at hj
          have hz6 := hz5
          rw [List.getElem?_map, List.getElem?_eq_getElem hj] at hz6
          cases hz6
          have h1 := addl ((nms c).take j) acc
          rw [List.length_take] at h1
          refine ⟨_, rfl, _, rfl, D, _, rfl, DPut.k (k := Sum.inr (S _)) hD5 (by rw [List.length_map]; exact sz _ (by omega)), ?_⟩
          rw [put_nm]
          refine ⟨_, rfl, same_put s5 nD, fun b xs e => tup_keepD hD5 _ _ (k5 b xs e), by rw [upd_ne pD]; exact hp5, ?_⟩
          rw [upd_same, List.take_add_one, List.getElem?_eq_getElem hj, List.foldl_append]
          rfl
        · rintro σ H5 ⟨y5, rfl, s5, k5, hp5, hD5⟩
          rw [List.take_of_length_le (by rw [List.length_map]; exact Nat.le_refl _)] at hD5
          exact fin H5 y5 s5 k5 hD5
      · have nk : kd ≠ Str.ofString "call" := by rcases hk with rfl | rfl | rfl | rfl <;> decide +kernel
        rw [decide_eq_false (fun e => nk (V.str.inj e))]
        refine iteF ?_
        refine ⟨_, rfl, a, _, 0, _, rfl, rfl, sqT ha, atI_nat (j := 0) rfl, _, _, rfl, .inr (uA _), rfl, rfl, _, rfl, ?_⟩
        rw [show (if false = true then !inV (.str kd) [.str (Str.ofString "if"), .str (Str.ofString "while")] else inV (.str kd) [.str (Str.ofString "if"), .str (Str.ofString "while")]) = false by rcases hk with rfl | rfl | rfl | rfl <;> decide +kernel]
        refine iteF ?_
        exact fin H1 x3 s1 k1 hD1
    · rintro σ H1 ⟨x2, x3, rfl, s1, k1, hD1⟩
      rw [List.take_of_length_le (Nat.le_of_eq hp.length.symm)] at hD1
      refine ⟨_, rfl, D, _, rfl, hD1, fun p np => ?_⟩
      have sp := same_new (o := .lst ((nmV (nss.flatten.foldl addN [])).map fun kv => kV kv.1)) np
      refine q _ p (s1.trans sp) (none_of s1 np) ?_
      rw [upd_same, List.map_map]
      rfl
end
end Own

namespace Own
open PySem PySem.Spec PyProof.Rows L2 SX RZ
section
variable {P : Program} {w : World} {K : PySem.W.Frag} {mg : Str → Option Value} {base : Heap}
def spBgI (C : Addr) : Sp := fun vs H Q _ => ∃ x dx hv, vs = [.ref x, hv] ∧ H x = some (.ins C dx []) ∧ ∀ H' cl g, (∀ b o, b ≠ x → H b = some o → H' b = some o) → H cl = none → H g = none → x ≠ cl → x ≠ g → cl ≠ g → H' x = some (.ins C dx [("head", hv), ("closed", .ref cl), ("gathered", .ref g)]) → H' cl = some (.lst []) → H' g = some (.lst []) → Q .non H'
abbrev sBgI : Stmt := inClass (topS 83) 0
theorem scBgI : FnScope ["self", "head"] ["self", "head"] (defScope sBgI) := ⟨rfl, rfl, rfl, by decide +kernel, rfl, by decide +kernel, by decide +kernel⟩
theorem ok_bgi {f C : Addr} {fd : FuncData} (F : Fun K "__init__" "Begun.__init__" sBgI f fd) (T : BgC K C) : FnOk P w K mg base CX0 1 f fd ["self", "head"] (spBgI C) := by
  refine F.ok scBgI (fun vs H Q E h => ?_) (fun cdv A outer s H vs Q E hr h => ?_)
  · obtain ⟨x, dx, hv, rfl, _⟩ := h
    rfl
  · obtain ⟨x, dx, hv, rfl, hx, q⟩ := h
    refine ⟨_, pss_cons (ps_fld (pv 0) (pv 1) (by rfl)) (pss_cons (ps_fld (pv 0) (pe_lst pa_nil) (by rfl)) (pss_one (ps_fld (pv 0) (pe_lst pa_nil) (by rfl)))), ?_⟩
    refine ⟨_, rfl, _, rfl, x, C, dx, _, rfl, hx, T.cls, T.nh, (by show 0 < 1000; decide), ?_⟩
    refine ⟨Nat.zero_le _, fun R nR => ?_⟩
    have nRx : x ≠ R := ne_of_none upd_same nR
    have nR0 : H R = none := by rw [upd_ne nRx.symm] at nR; exact nR
    refine ⟨_, rfl, x, C, dx, _, rfl, by rw [upd_ne nRx, upd_same], T.cls, T.nc, (by show 1 < 1000; decide), ?_⟩
    refine ⟨Nat.zero_le _, fun J nJ => ?_⟩
    have nJx : x ≠ J := ne_of_none upd_same nJ
    have nJ1 : upd (upd H x (.ins C dx (putF "head" hv []))) R (.lst []) J = none := by rw [upd_ne nJx.symm] at nJ; exact nJ
    have nJR : R ≠ J := ne_of_none upd_same nJ1
    have hJ : H J = none := by rw [upd_ne nJR.symm, upd_ne nJx.symm] at nJ1; exact nJ1
    refine ⟨_, rfl, x, C, dx, _, rfl, by rw [upd_ne nJx, upd_same], T.cls, T.ng, (by show 2 < 1000; decide), ?_⟩
    refine q _ R J (fun b o nb e => ?_) nR0 hJ nRx nJx nJR upd_same ?_ ?_
    · rw [upd_ne nb, upd_ne (ne_of_none e hJ), upd_ne nb, upd_ne (ne_of_none e nR0), upd_ne nb]
      exact e
    · rw [upd_ne nRx.symm, upd_ne nJR, upd_ne nRx.symm, upd_same]
    · rw [upd_ne nJx.symm, upd_same]
end
end Own

namespace Own
open PySem PySem.Spec PyProof.Rows L2 SX RZ
section
variable {P : Program} {w : World} {K : PySem.W.Frag} {mg : Str → Option Value} {base : Heap}
def spBo : Sp := fun vs H Q _ => ∃ (a : Addr) (ps : List V), vs = [.ref a] ∧ H a = some (.lst ps) ∧ ps ≠ [] ∧ ps.length ≤ 100000 ∧ ∀ H' v, Same H H' → Blk H' ps v → Q v H'
abbrev sBo : Stmt := topS 84
abbrev boN : List Str := ["programs"]
theorem scBo : FnScope boN ["programs"] (defScope sBo) := ⟨rfl, rfl, rfl, by decide +kernel, rfl, by decide +kernel, by decide +kernel⟩
theorem ok_bo {f : Addr} {fd : FuncData} (F : Fun K "block_of" "block_of" sBo f fd) (m_len : mg "len" = none) :
    FnOk P w K mg base CX0 1 f fd ["programs"] spBo := by
  refine F.ok scBo (fun vs H Q E h => ?_) (fun cdv A outer s H vs Q E hr h => ?_)
  · obtain ⟨a, ps, rfl, _⟩ := h
    rfl
  · obtain ⟨a, ps, rfl, ha, hn, hl, q⟩ := h
    refine ⟨_, (pss_cons (ps_if (pt_cmpR op_eq (pe_callB (callLenC (K := K) rfl) (by rfl) m_len PySem.boot_len (pa_cons (pv 0) pa_nil)) pe_int (nomark _)) (pss_one (ps_ret (pe_ix (ixL (K := K) rfl) (pv 0) pe_int (fun _ _ => rfl)))) pss_nil)
      (pss_one (ps_ret (pe_tup (pa_cons pe_str (StX.pa_star (pv 0) pa_nil)))))), ?_⟩
    refine ⟨_, rfl, a, _, rfl, .inl (sqL ha), ?_⟩
    match ps, hn, hl, ha with
    | [y], _, _, ha =>
      refine ⟨rfl, _, rfl, ?_⟩
      rw [show decide (V.int (([y].length : Nat) : Int) = V.int 1) = true from decide_eq_true rfl]
      refine iteT ?_
      exact ⟨_, rfl, a, _, 0, _, rfl, rfl, sqL ha, atI_nat (j := 0) rfl, q _ _ (Same.refl _) (.inl rfl)⟩
    | y :: z :: ps, _, hl, ha =>
      refine ⟨rfl, _, rfl, ?_⟩
      rw [decide_eq_false (fun e => by injection e with e; simp at e; omega)]
      refine iteF ?_
      refine ⟨_, rfl, a, _, rfl, .inr (sqL ha), ?_⟩
      refine ⟨by rw [sizeLine_eq]; simp at hl ⊢; omega, fun T nT => ?_⟩
      exact q _ _ (same_new nT) (.inr ⟨by simp, T, rfl, by rw [upd_same]; simp⟩)
end
end Own

namespace Own
open PySem PySem.Spec PyProof.Rows L2 SX RZ
section
variable {P : Program} {w : World} {K : PySem.W.Frag} {mg : Str → Option Value} {base : Heap}
def spTpe : Sp := fun vs H Q _ => ∃ (xs a z : List Nat) (n : Nat), vs = [tx xs, iv n] ∧ xs.drop n = a ++ z ∧ n ≤ xs.length ∧ xs.length ≤ 100000 ∧ (∀ c ∈ a, c ≠ 59 ∧ c ≠ 93) ∧ (∀ c r, z = c :: r → c = 59 ∨ c = 93) ∧ ∀ H', Same H H' → Q (iv (n + a.length)) H'
abbrev sTpe : Stmt := topS 85
abbrev tpeN : List Str := ["text", "at", "end"]
theorem scTpe : FnScope tpeN ["text", "at"] (defScope sTpe) := ⟨rfl, rfl, rfl, by decide +kernel, rfl, by decide +kernel, by decide +kernel⟩
theorem ok_tpe {f : Addr} {fd : FuncData} (F : Fun K "template_end" "template_end" sTpe f fd) (m_len : mg "len" = none) :
    FnOk P w K mg base CX0 1 f fd ["text", "at"] spTpe := by
  refine F.ok scTpe (fun vs H Q E h => ?_) (fun cdv A outer s H vs Q E hr h => ?_)
  · obtain ⟨xs, a, z, n, rfl, _⟩ := h
    rfl
  · obtain ⟨xs, a, z, n, rfl, hd, hn, hl, ha, hz, q⟩ := h
    refine ⟨_, (pss_cons (ps_set (i := 2) scTpe.nd rfl (by first | exact .inl rfl | exact .inr rfl) (pv 1))
      (pss_cons (ps_while PassesOwn.never (PW.pt (pw_and (pt_cmpR op_lt (pv 2) (pe_callB call_len_str (by rfl) m_len PySem.boot_len (pa_cons (pv 0) pa_nil)) (nomark _)) (pw_and1 (pt_cmpR op_notIn_seq (pe_ix ix_str (pv 0) (pv 2) (fun _ _ => rfl)) (pe_tup (pa_cons pe_str (pa_cons pe_str pa_nil))) (by rfl)))))
        (pss_one (ps_aug (i := 2) scTpe.nd rfl (by first | exact .inl rfl | exact .inr rfl) pe_int ip_add)))
      (pss_one (ps_ret (pv 2))))), ?_⟩
    have hz' : (S xs).length ≤ sizeLine := by rw [S_len, sizeLine_eq]; omega
    have hlen : xs.length = n + (a.length + z.length) := by
      have := congrArg List.length hd
      rw [List.length_drop, List.length_append] at this
      omega
    have hat : ∀ k, k < a.length → ∃ c, xs[n + k]? = some c ∧ c ≠ 59 ∧ c ≠ 93 := fun k hk => by
      have e : xs[n + k]? = (a ++ z)[k]? := by rw [← hd, List.getElem?_drop]
      rw [List.getElem?_append_left hk] at e
      exact ⟨_, e.trans (List.getElem?_eq_getElem hk), ha _ (List.getElem_mem hk)⟩
    have hend : ∀ c, xs[n + a.length]? = some c → c = 59 ∨ c = 93 := fun c hc => by
      have e : xs[n + a.length]? = (a ++ z)[a.length]? := by rw [← hd, List.getElem?_drop]
      rw [List.getElem?_append_right (Nat.le_refl _), Nat.sub_self] at e
      rw [e] at hc
      cases z with
      | nil => cases hc
      | cons x r => cases hc; exact hz _ _ rfl
    refine ⟨_, rfl, ?_⟩
    show tWhile _ _ _ [some (tx xs), some (iv n), some (iv n)] H
    refine ⟨fun m σ H' => ∃ k, σ = [some (tx xs), some (iv n), some (iv (n + k))] ∧ k ≤ a.length ∧ m = a.length - k ∧ Same H H', ⟨_, 0, rfl, Nat.zero_le _, rfl, Same.refl _⟩, ?_⟩
    rintro m σ H1 ⟨k, rfl, hk, rfl, s1⟩
    refine ⟨_, rfl, _, rfl, S xs, rfl, hz', _, _, rfl, rfl, _, rfl, ?_⟩
    rw [S_len, dec_lt]
    by_cases h : n + k < xs.length
    rotate_left
    · rw [decide_eq_false h]
      have : k = a.length := by omega
      subst this
      exact iteF ⟨_, rfl, q _ s1⟩
    rw [decide_eq_true h]
    obtain ⟨c, hc⟩ : ∃ c, xs[n + k]? = some c := ⟨_, List.getElem?_eq_getElem h⟩
    refine iteT ⟨_, rfl, _, rfl, S xs, _, c, rfl, rfl, hz', atI_nat hc, (by show 2 ≤ sizeLine; decide), fun T nT => ?_⟩
    refine ⟨T, _, rfl, .inr (.inl (.inl upd_same)), rfl, rfl, _, rfl, ?_⟩
    have ein : inV (.str (S [c])) [V.str (Str.ofString ";"), V.str (Str.ofString "]")] = decide (c = 59 ∨ c = 93) := by
      have e := inV_tx (m := [c]) (l := [[59], [93]])
      rw [show ([[59], [93]] : List (List Nat)).map tx = [V.str (Str.ofString ";"), V.str (Str.ofString "]")] from rfl] at e
      refine e.trans ?_
      by_cases h : c = 59 ∨ c = 93
      · rw [decide_eq_true h]; exact decide_eq_true (by rcases h with rfl | rfl <;> simp)
      · rw [decide_eq_false h]; exact decide_eq_false fun m => h (by simpa using m)
    have sT := same_new (o := .tup [V.str (Str.ofString ";"), V.str (Str.ofString "]")]) nT
    by_cases hk2 : k < a.length
    · obtain ⟨c', hc', hl'⟩ := hat k hk2
      rw [hc] at hc'
      cases hc'
      rw [show (if true = true then !inV (.str (S [c])) [V.str (Str.ofString ";"), V.str (Str.ofString "]")] else inV (.str (S [c])) [V.str (Str.ofString ";"), V.str (Str.ofString "]")]) = true by
        rw [if_pos rfl, ein, decide_eq_false (fun h => h.elim hl'.1 hl'.2)]; rfl]
      refine iteT ⟨fun σ H' => ∃ k', σ = [some (tx xs), some (iv n), some (iv (n + k'))] ∧ k' ≤ a.length ∧ k' = k + 1 ∧ Same H H', ?_, ?_⟩
      · rintro σ' H' ⟨k', rfl, h1, rfl, s2⟩
        exact ⟨_, by omega, _, rfl, h1, rfl, s2⟩
      · refine ⟨_, rfl, _, _, rfl, rfl, k + 1, ?_, by omega, rfl, s1.trans sT⟩
        show [some (tx xs), some (iv n), some (V.int (((n + k : Nat) : Int) + 1))] = _
        rw [show ((n + k : Nat) : Int) + 1 = ((n + (k + 1) : Nat) : Int) by omega]
    · have ek : k = a.length := by omega
      subst ek
      rw [show (if true = true then !inV (.str (S [c])) [V.str (Str.ofString ";"), V.str (Str.ofString "]")] else inV (.str (S [c])) [V.str (Str.ofString ";"), V.str (Str.ofString "]")]) = false by
        rw [if_pos rfl, ein, decide_eq_true (hend c hc)]; rfl]
      exact iteF ⟨_, rfl, q _ (s1.trans sT)⟩
end
end Own

namespace Own
open PySem PySem.Spec PyProof.Rows L2 SX RZ
section
variable {P : Program} {w : World} {K : PySem.W.Frag} {mg : Str → Option Value} {base : Heap}
/-- what may stand behind a program -/
def EndZ (z : List Nat) : Prop := ∀ c r, z = c :: r → c = 59 ∨ c = 93
abbrev wkT (b : Bool) : List Nat := if b then Prg.failT else Prg.callT
abbrev wkS (b : Bool) : Str := if b then Str.ofString "fail" else Str.ofString "call"
def wLf (b : Bool) (m : List Nat) : Prg.Lf := if b then .fail m else .call m
theorem wLf_tx (b : Bool) (m : List Nat) : Prg.lTx (wLf b m) = wkT b ++ m := by cases b <;> rfl
theorem wkT_len (b : Bool) : (wkT b).length = 5 := by cases b <;> rfl
theorem wLf_h {H : Hp} {T : Addr} {b : Bool} {m : List Nat} (h : H T = some (.tup [.str (wkS b), tx m])) : LfH H (wLf b m) (.ref T) := by
  cases b <;> exact ⟨T, rfl, h⟩
def spRlf : Sp := fun vs H Q _ => ∃ (gs xs z : List Nat) (n : Nat) (l : Prg.Lf), vs = [tx gs, tx xs, iv n] ∧ Good gs ∧ xs.drop n = Prg.lTx l ++ z ∧ n ≤ xs.length ∧ xs.length ≤ 100000 ∧ OkTL gs l ∧ EndZ z ∧
  ∀ H' p v, Same H H' → H p = none → H' p = some (.tup [v, iv (n + (Prg.lTx l).length)]) → LfH H' l v → Q (.ref p) H'
abbrev sRlf : Stmt := topS 86
abbrev rlfN : List Str := ["letters", "text", "at", "start", "end", "kind", "word"]
theorem scRlf : FnScope rlfN ["letters", "text", "at"] (defScope sRlf) := ⟨rfl, rfl, rfl, by decide +kernel, rfl, by decide +kernel, by decide +kernel⟩
theorem ok_rlf {f : Addr} {fd : FuncData} (F : Fun K "read_leaf" "read_leaf" sRlf f fd) (m_len : mg "len" = none) {f1 : Addr} {fd1 : FuncData} (c1 : Cl P w K mg base "read_name" 1 ["text", "at"] spRnm f1 fd1) {f2 : Addr} {fd2 : FuncData} (c2 : Cl P w K mg base "template_text" 6 ["letters", "text"] spTtx f2 fd2) {f3 : Addr} {fd3 : FuncData} (c3 : Cl P w K mg base "template_end" 1 ["text", "at"] spTpe f3 fd3) {WK : Addr} (gW : mg "WORD_KINDS" = some (.ref WK)) (uW : ∀ H, SqT K H WK [.str (Str.ofString "fail"), .str (Str.ofString "call")]) :
    FnOk P w K mg base CX0 7 f fd ["letters", "text", "at"] spRlf := by
  refine F.ok scRlf (fun vs H Q E h => ?_) (fun cdv A outer s H vs Q E hr h => ?_)
  · obtain ⟨gs, xs, z, n, l, rfl, _⟩ := h
    rfl
  · obtain ⟨gs, xs, z, n, l, rfl, hg, hd, hn, hl, hok, hz, q⟩ := h
    refine ⟨_, (pss_cons (ps_if (pt_val (pe_bm PySem.F.plainAttrs_str PySem.F.slot_str_startswith PySem.F.type_str_startswith mt_startswith3 (pv 1) (pa_cons pe_str (pa_cons (pv 2) pa_nil)))) (pss_one (ps_ret (pe_tup (pa_cons (pe_tup (pa_cons pe_str pa_nil)) (pa_cons (pe_op op_add (pv 2) (pe_callB call_len_str (by rfl) m_len PySem.boot_len (pa_cons pe_str pa_nil))) pa_nil))))) pss_nil)
      (pss_cons (ps_if (pt_val (pe_bm PySem.F.plainAttrs_str PySem.F.slot_str_startswith PySem.F.type_str_startswith mt_startswith3 (pv 1) (pa_cons pe_str (pa_cons (pv 2) pa_nil)))) (pss_cons (ps_set (i := 3) scRlf.nd rfl (by first | exact .inl rfl | exact .inr rfl) (pe_op op_add (pv 2) (pe_callB call_len_str (by rfl) m_len PySem.boot_len (pa_cons pe_str pa_nil))))
      (pss_cons (ps_set (i := 4) scRlf.nd rfl (by first | exact .inl rfl | exact .inr rfl) (pe_cl c3 hr (by decide) (by rfl) (pa_cons (pv 1) (pa_cons (pv 3) pa_nil))))
      (pss_one (ps_ret (pe_tup (pa_cons (pe_tup (pa_cons pe_str (pa_cons (pe_cl c2 hr (by decide) (by rfl) (pa_cons (pv 0) (pa_cons (pe_slice sl_str (pv 1) (po_some (pv 3)) (po_some (pv 4))) pa_nil))) pa_nil))) (pa_cons (pv 4) pa_nil))))))) pss_nil)
      (pss_cons (ps_for PassesOwn.never rfl (pi_tup (pe_glob (v := .ref WK) (by rfl) gW rfl)) (pg_name (i := 5) scRlf.nd rfl (by first | exact .inl rfl | exact .inr rfl))
        (pss_one (ps_if (pt_val (pe_bm PySem.F.plainAttrs_str PySem.F.slot_str_startswith PySem.F.type_str_startswith mt_startswith3 (pv 1) (pa_cons (pe_joined (.cons (pe_fmt (pv 5)) (.cons pe_str .nil))) (pa_cons (pv 2) pa_nil)))) (pss_cons (ps_asg (pe_cl c1 hr (by decide) (by rfl) (pa_cons (pv 1) (pa_cons (pe_op op_add (pe_op op_add (pv 2) (pe_callB call_len_str (by rfl) m_len PySem.boot_len (pa_cons (pv 5) pa_nil))) pe_int) pa_nil))) (pg_tup rfl (pgs_cons (pg_name (i := 6) scRlf.nd rfl (by first | exact .inl rfl | exact .inr rfl)) (pgs_cons (pg_name (i := 4) scRlf.nd rfl (by first | exact .inl rfl | exact .inr rfl)) pgs_nil))))
      (pss_one (ps_ret (pe_tup (pa_cons (pe_tup (pa_cons (pv 5) (pa_cons (pv 6) pa_nil))) (pa_cons (pv 4) pa_nil)))))) pss_nil)))
      (pss_one (ps_never))))), ?_⟩
    have hz' : (S xs).length ≤ sizeLine := by rw [S_len, sizeLine_eq]; omega
    have hxl : xs.length = n + ((Prg.lTx l).length + z.length) := by
      have := congrArg List.length hd
      rw [List.length_drop, List.length_append] at this
      omega
    refine ⟨_, rfl, rfl, _, rfl, S xs, S Prg.skipT, ((n : Nat) : Int), rfl, rfl, _, rfl, ?_⟩
    rw [sw3 hn, hd]
    have hw : l = .skip ∨ (∃ a x, l = .fill a x) ∨ ∃ b m, l = wLf b m ∧ OkN m := by
      cases l with
      | skip => exact .inl rfl
      | fill a x => exact .inr (.inl ⟨a, x, rfl⟩)
      | fail m => exact .inr (.inr ⟨true, m, rfl, hok⟩)
      | call m => exact .inr (.inr ⟨false, m, rfl, hok⟩)
    rcases hw with rfl | ⟨a, x, rfl⟩ | ⟨b, m, rfl, h0, h8, hm⟩
    · 
      rw [decide_eq_true (show Prg.skipT <+: Prg.lTx .skip ++ z from ⟨z, rfl⟩)]
      refine iteT ?_
      refine ⟨(by show 1 ≤ sizeLine; decide), fun T nT => ⟨_, rfl, _, rfl, (by show 4 ≤ sizeLine; decide), _, _, rfl, rfl, (by show 2 ≤ sizeLine; decide), fun U nU => ?_⟩⟩
      have sT := same_new (o := .tup [V.str (Str.ofString "skip")]) nT
      have sU := same_new (o := .tup [V.ref T, iv (n + 4)]) nU
      exact q _ U (V.ref T) (sT.trans sU) (none_of sT nU) upd_same ⟨T, rfl, sU _ _ upd_same⟩
    · obtain ⟨i, rfl, hi, li, rd, la, sa⟩ := hok
      rw [decide_eq_false (show ¬ Prg.skipT <+: Prg.lTx (.fill a (rTx gs i)) ++ z from fun ⟨t, e⟩ => by simp [Prg.lTx] at e)]
      refine iteF ?_
      refine ⟨_, rfl, rfl, _, rfl, S xs, S Prg.fillT, ((n : Nat) : Int), rfl, rfl, _, rfl, ?_⟩
      rw [sw3 hn, hd]
      have e5 : (Prg.lTx (.fill a (rTx gs i))).length = 5 + a.length := by show (Prg.fillT ++ a).length = _; rw [List.length_append]; rfl
      rw [decide_eq_true (show Prg.fillT <+: Prg.lTx (.fill a (rTx gs i)) ++ z from ⟨a ++ z, by show _ = (Prg.fillT ++ a) ++ z; rw [List.append_assoc]⟩)]
      refine iteT ?_
      have hd5 : xs.drop (n + 5) = a ++ z := by
        rw [← List.drop_drop, hd]
        show ((Prg.fillT ++ a) ++ z).drop 5 = _
        rw [List.append_assoc]
        rfl
      refine ⟨_, rfl, _, rfl, (by show 5 ≤ sizeLine; decide), _, _, rfl, rfl, ?_⟩
      try dsimp only [gName, tSeq, tAsg, List.set_cons_zero, List.set_cons_succ]
      refine ⟨_, rfl, _, rfl, xs, a, z, n + 5, ?_, hd5, by omega, hl, sa, hz, fun H1 s1 => ?_⟩
      · show [tx xs, V.int (((n : Nat) : Int) + ((5 : Nat) : Int))] = [tx xs, iv (n + 5)]
        rw [show ((n : Nat) : Int) + ((5 : Nat) : Int) = ((n + 5 : Nat) : Int) by omega]
      try dsimp only [gName, tSeq, tAsg, List.set_cons_zero, List.set_cons_succ]
      refine ⟨_, rfl, _, rfl, _, rfl, _, rfl, _, rfl, _, rfl, S xs, rfl, hz', ?_⟩
      have ec : cutS (S xs) (some (((n : Nat) : Int) + ((5 : Nat) : Int))) (some ((n + 5 + a.length : Nat) : Int)) = S a := by
        rw [show ((n : Nat) : Int) + ((5 : Nat) : Int) = ((n + 5 : Nat) : Int) by omega]
        unfold cutS
        rw [S_len, HT.sIx_nat, HT.sIx_nat, Nat.min_eq_left (by omega), Nat.min_eq_left (by omega)]
        show (⟨_⟩ : Str) = ⟨_⟩
        congr 2
        show (xs.drop (n + 5)).take (n + 5 + a.length - (n + 5)) = a
        rw [hd5, show n + 5 + a.length - (n + 5) = a.length by omega, List.take_left]
      refine ⟨gs, a, i, ?_, hg, hi, li, rd, la, fun H2 s2 => ?_⟩
      · show [tx gs, V.str (cutS (S xs) (some (((n : Nat) : Int) + ((5 : Nat) : Int))) (some ((n + 5 + a.length : Nat) : Int)))] = _
        rw [ec]
      refine ⟨(by show 2 ≤ sizeLine; decide), fun T nT => ⟨_, rfl, (by show 2 ≤ sizeLine; decide), fun U nU => ?_⟩⟩
      have sT := same_new (o := .tup [V.str (Str.ofString "fill"), tx (rTx gs i)]) nT
      have sU := same_new (o := .tup [V.ref T, iv (n + 5 + a.length)]) nU
      have s3 := s1.trans (s2.trans sT)
      refine q _ U (V.ref T) (s3.trans sU) (none_of s3 nU) ?_ ⟨T, rfl, sU _ _ upd_same⟩
      rw [upd_same, e5, Nat.add_assoc]
    · rw [decide_eq_false (show ¬ Prg.skipT <+: Prg.lTx (wLf b m) ++ z from fun ⟨t, e⟩ => by cases b <;> simp [Prg.lTx, wLf] at e)]
      refine iteF ?_
      refine ⟨_, rfl, rfl, _, rfl, S xs, S Prg.fillT, ((n : Nat) : Int), rfl, rfl, _, rfl, ?_⟩
      rw [sw3 hn, hd]
      rw [decide_eq_false (show ¬ Prg.fillT <+: Prg.lTx (wLf b m) ++ z from fun ⟨t, e⟩ => by cases b <;> simp [Prg.lTx, wLf] at e)]
      refine iteF ?_
      have e5 : (Prg.lTx (wLf b m)).length = 5 + m.length := by rw [wLf_tx, List.length_append, wkT_len]
      have hd0 : xs.drop n = wkT b ++ (m ++ z) := by rw [hd, wLf_tx, List.append_assoc]
      have hd5 : xs.drop (n + 5) = m ++ z := by
        rw [← List.drop_drop, hd0, show 5 = (wkT b).length from (wkT_len b).symm, List.drop_left]
      refine ⟨WK, rfl, ⟨_, uW _⟩, ?_⟩
      refine for_it (walk_tup (K := K) (a := WK) (xs := [V.str (Str.ofString "fail"), V.str (Str.ofString "call")])) (fun i σ H' => ∃ v5 : Option V, σ = [some (tx gs), some (tx xs), some (iv n), none, none, v5, none] ∧ Same H H' ∧ (i = 0 ∨ (i = 1 ∧ b = false)))
        ⟨none, rfl, Same.refl _, .inl rfl⟩ (fun i σ H' _ h => uW _) ?_ ?_
      · rintro i v σ H2 H3 hi ⟨v5, rfl, s2, hib⟩ ⟨rfl, hv⟩
        try dsimp only [gName, tSeq, tAsg, List.set_cons_zero, List.set_cons_succ]
        obtain ⟨wb, rfl, hwi⟩ : ∃ wb : Bool, v = V.str (wkS wb) ∧ (i = if wb then 0 else 1) := by
          match i, hi, hv with
          | 0, _, hv => cases hv; exact ⟨true, rfl, rfl⟩
          | 1, _, hv => cases hv; exact ⟨false, rfl, rfl⟩
        have ew : Str.empty ++ wkS wb ++ Str.ofString " " = S (wkT wb) := by cases wb <;> rfl
        have lw : (wkS wb).length ≤ sizeLine := by cases wb <;> (show _ ≤ sizeLine; decide)
        have l2 : (Str.empty ++ wkS wb).length ≤ sizeLine := by cases wb <;> decide
        have l3 : (Str.empty ++ wkS wb ++ Str.ofString " ").length ≤ sizeLine := by cases wb <;> decide
        have lw4 : ((wkS wb).length : Int) = 4 := by cases wb <;> rfl
        refine ⟨_, rfl, rfl, _, rfl, .inl ⟨_, rfl, lw, _, rfl, l2, _, rfl, l3, _, rfl, S xs, _, _, rfl, rfl, _, rfl, ?_⟩⟩
        rw [ew, sw3 hn, hd0]
        by_cases hb : wb = b
        · subst hb
          rw [decide_eq_true (show wkT wb <+: wkT wb ++ (m ++ z) from ⟨m ++ z, rfl⟩)]
          refine iteT ?_
          refine ⟨_, rfl, _, rfl, _, rfl, _, rfl, lw, _, _, rfl, rfl, _, _, rfl, rfl, xs, m, z, n + 5, ?_, hd5, by omega, hl, h0, h8, hm, ?_, fun H4 p s4 np hp => ?_⟩
          · show [tx xs, V.int (((n : Nat) : Int) + ((wkS wb).length : Int) + 1)] = [tx xs, iv (n + 5)]
            rw [lw4, show ((n : Nat) : Int) + 4 + 1 = ((n + 5 : Nat) : Int) by omega]
          · intro c r e
            have := hz c r e
            omega
          refine ⟨p, _, rfl, sqT hp, rfl, _, _, rfl, _, _, rfl, rfl, ?_⟩
          try dsimp only [gName, tSeq, tAsg, List.set_cons_zero, List.set_cons_succ]
          refine ⟨_, rfl, _, rfl, (by show 2 ≤ sizeLine; decide), fun T nT => ⟨_, rfl, (by show 2 ≤ sizeLine; decide), fun U nU => ?_⟩⟩
          have sT := same_new (o := .tup [V.str (wkS wb), tx m]) nT
          have sU := same_new (o := .tup [V.ref T, iv (n + 5 + m.length)]) nU
          have s5 := s2.trans (s4.trans sT)
          refine q _ U (V.ref T) (s5.trans sU) (none_of s5 nU) ?_ (wLf_h (sU _ _ upd_same))
          rw [upd_same, e5, Nat.add_assoc]
        · rw [decide_eq_false (show ¬ wkT wb <+: wkT b ++ (m ++ z) from fun ⟨t, e⟩ => hb (by
            cases wb <;> cases b
            · rfl
            · simp [wkT] at e
            · simp [wkT] at e
            · rfl))]
          refine iteF ⟨_, rfl, s2, ?_⟩
          rcases hib with rfl | ⟨rfl, rfl⟩
          · refine .inr ⟨rfl, ?_⟩
            have : wb = true := by cases wb with
              | true => rfl
              | false => cases hwi
            subst this
            cases b with
            | true => exact absurd rfl hb
            | false => rfl
          · have : wb = false := by cases wb with
              | true => cases hwi
              | false => rfl
            exact absurd this hb
      · rintro σ H2 ⟨v5, rfl, s2, hib⟩
        have hib : (2 = 0 ∨ (2 = 1 ∧ b = false)) := hib
        omega
end
end Own

namespace Own
open PySem PySem.Spec PyProof.Rows L2 SX RZ
section
variable {P : Program} {w : World} {K : PySem.W.Frag} {mg : Str → Option Value} {base : Heap}
/-- the word that asks -/
abbrev askT (b : Bool) : List Nat := if b then Prg.ifT else Prg.whilT
abbrev askS (b : Bool) : Str := if b then Str.ofString "if" else Str.ofString "while"
def spRhd : Sp := fun vs H Q _ => ∃ (gs xs : List Nat) (n : Nat), vs = [tx gs, tx xs, iv n] ∧ Good gs ∧ n ≤ xs.length ∧ xs.length ≤ 100000 ∧
  ((∃ (l : Prg.Lf) (z : List Nat), xs.drop n = Prg.lTx l ++ z ∧ ∀ H' p, Same H H' → H p = none → H' p = some (.tup [.non, iv n]) → Q (.ref p) H') ∨
   ∃ (b : Bool) (c : Cnd.Cd) (z : List Nat), xs.drop n = askT b ++ (Cnd.cTx c ++ (32 :: 91 :: z)) ∧ OkS gs c ∧ Cnd.dpt c ≤ 60 ∧
     ∀ H' p t y, Same H H' → H p = none → H' p = some (.tup [.ref t, iv (n + ((askT b).length + ((Cnd.cTx c).length + 2)))]) → H' t = some (.tup [.str (askS b), y]) → CdH H' c y → Q (.ref p) H')
abbrev sRhd : Stmt := topS 87
abbrev rhdN : List Str := ["letters", "text", "at", "kind", "condition", "end"]
theorem scRhd : FnScope rhdN ["letters", "text", "at"] (defScope sRhd) := ⟨rfl, rfl, rfl, by decide +kernel, rfl, by decide +kernel, by decide +kernel⟩
theorem ok_rhd {f : Addr} {fd : FuncData} (F : Fun K "read_head" "read_head" sRhd f fd) (m_len : mg "len" = none) {f1 : Addr} {fd1 : FuncData} (c1 : Cl P w K mg base "read_condition" 9 ["letters", "text", "at"] spRdc f1 fd1) {AK : Addr} (gA : mg "ASKING_KINDS" = some (.ref AK)) (uA : ∀ H, SqT K H AK [.str (Str.ofString "if"), .str (Str.ofString "while")]) :
    FnOk P w K mg base CX0 10 f fd ["letters", "text", "at"] spRhd := by
  refine F.ok scRhd (fun vs H Q E h => ?_) (fun cdv A outer s H vs Q E hr h => ?_)
  · obtain ⟨gs, xs, n, rfl, _⟩ := h
    rfl
  · obtain ⟨gs, xs, n, rfl, hg, hn, hl, hh⟩ := h
    refine ⟨_, (pss_cons (ps_for PassesOwn.never rfl (pi_tup (pe_glob (v := .ref AK) (by rfl) gA rfl)) (pg_name (i := 3) scRhd.nd rfl (by first | exact .inl rfl | exact .inr rfl))
        (pss_one (ps_if (pt_val (pe_bm PySem.F.plainAttrs_str PySem.F.slot_str_startswith PySem.F.type_str_startswith mt_startswith3 (pv 1) (pa_cons (pe_joined (.cons (pe_fmt (pv 3)) (.cons pe_str .nil))) (pa_cons (pv 2) pa_nil)))) (pss_cons (ps_asg (pe_cl c1 hr (by decide) (by rfl) (pa_cons (pv 0) (pa_cons (pv 1) (pa_cons (pe_op op_add (pe_op op_add (pv 2) (pe_callB call_len_str (by rfl) m_len PySem.boot_len (pa_cons (pv 3) pa_nil))) pe_int) pa_nil)))) (pg_tup rfl (pgs_cons (pg_name (i := 4) scRhd.nd rfl (by first | exact .inl rfl | exact .inr rfl)) (pgs_cons (pg_name (i := 5) scRhd.nd rfl (by first | exact .inl rfl | exact .inr rfl)) pgs_nil))))
      (pss_cons (ps_if (pt_not (pt_val (pe_bm PySem.F.plainAttrs_str PySem.F.slot_str_startswith PySem.F.type_str_startswith mt_startswith3 (pv 1) (pa_cons pe_str (pa_cons (pv 5) pa_nil))))) pss_never pss_nil)
      (pss_one (ps_ret (pe_tup (pa_cons (pe_tup (pa_cons (pv 3) (pa_cons (pv 4) pa_nil))) (pa_cons (pe_op op_add (pv 5) (pe_callB call_len_str (by rfl) m_len PySem.boot_len (pa_cons pe_str pa_nil))) pa_nil))))))) pss_nil)))
      (pss_one (ps_ret (pe_tup (pa_cons pe_non (pa_cons (pv 2) pa_nil)))))), ?_⟩
    have hz' : (S xs).length ≤ sizeLine := by rw [S_len, sizeLine_eq]; omega
    refine ⟨AK, rfl, ⟨_, uA _⟩, ?_⟩
    have words : ∀ {i : Nat} {v : V}, [V.str (Str.ofString "if"), V.str (Str.ofString "while")][i]? = some v → ∃ wb : Bool, v = V.str (askS wb) ∧ (i = if wb then 0 else 1) := fun {i v} hv => by
      match i, hv with
      | 0, hv => cases hv; exact ⟨true, rfl, rfl⟩
      | 1, hv => cases hv; exact ⟨false, rfl, rfl⟩
    have ew : ∀ wb : Bool, Str.empty ++ askS wb ++ Str.ofString " " = S (askT wb) := fun wb => by cases wb <;> rfl
    have lw : ∀ wb : Bool, (askS wb).length ≤ sizeLine := fun wb => by cases wb <;> (show _ ≤ sizeLine; decide)
    have l2 : ∀ wb : Bool, (Str.empty ++ askS wb).length ≤ sizeLine := fun wb => by cases wb <;> decide
    have l3 : ∀ wb : Bool, (Str.empty ++ askS wb ++ Str.ofString " ").length ≤ sizeLine := fun wb => by cases wb <;> decide
    rcases hh with ⟨l, z, hd, q⟩ | ⟨b, c, z, hd, hok, hdp, q⟩
    · refine for_it (walk_tup (K := K) (a := AK) (xs := [V.str (Str.ofString "if"), V.str (Str.ofString "while")])) (fun i σ H' => ∃ v3 : Option V, σ = [some (tx gs), some (tx xs), some (iv n), v3, none, none] ∧ Same H H')
        ⟨none, rfl, Same.refl _⟩ (fun i σ H' _ h => uA _) ?_ ?_
      · rintro i v σ H2 H3 hi ⟨v3, rfl, s2⟩ ⟨rfl, hv⟩
        try dsimp only [gName, tSeq, tAsg, List.set_cons_zero, List.set_cons_succ]
        obtain ⟨wb, rfl, hwi⟩ := words hv
        refine ⟨_, rfl, rfl, _, rfl, .inl ⟨_, rfl, lw wb, _, rfl, l2 wb, _, rfl, l3 wb, _, rfl, S xs, _, _, rfl, rfl, _, rfl, ?_⟩⟩
        rw [ew, sw3 hn, hd]
        rw [decide_eq_false (show ¬ askT wb <+: Prg.lTx l ++ z from fun ⟨t, e⟩ => by cases wb <;> cases l <;> simp [askT, Prg.lTx] at e)]
        exact iteF ⟨_, rfl, s2⟩
      · rintro σ H2 ⟨v3, rfl, s2⟩
        refine ⟨_, rfl, (by show 2 ≤ sizeLine; decide), fun T nT => ?_⟩
        exact q _ T (s2.trans (same_new nT)) (none_of s2 nT) upd_same
    · refine for_it (walk_tup (K := K) (a := AK) (xs := [V.str (Str.ofString "if"), V.str (Str.ofString "while")])) (fun i σ H' => ∃ v3 : Option V, σ = [some (tx gs), some (tx xs), some (iv n), v3, none, none] ∧ Same H H' ∧ (i = 0 ∨ (i = 1 ∧ b = false)))
        ⟨none, rfl, Same.refl _, .inl rfl⟩ (fun i σ H' _ h => uA _) ?_ ?_
      · rintro i v σ H2 H3 hi ⟨v3, rfl, s2, hib⟩ ⟨rfl, hv⟩
        try dsimp only [gName, tSeq, tAsg, List.set_cons_zero, List.set_cons_succ]
        obtain ⟨wb, rfl, hwi⟩ := words hv
        refine ⟨_, rfl, rfl, _, rfl, .inl ⟨_, rfl, lw wb, _, rfl, l2 wb, _, rfl, l3 wb, _, rfl, S xs, _, _, rfl, rfl, _, rfl, ?_⟩⟩
        rw [ew, sw3 hn, hd]
        by_cases hb : wb = b
        · subst hb
          rw [decide_eq_true (show askT wb <+: askT wb ++ (Cnd.cTx c ++ (32 :: 91 :: z)) from ⟨_, rfl⟩)]
          refine iteT ?_
          have hxl : xs.length = n + ((askT wb).length + ((Cnd.cTx c).length + (z.length + 2))) := by
            have := congrArg List.length hd
            rw [List.length_drop, List.length_append, List.length_append, List.length_cons, List.length_cons] at this
            omega
          have elw : (askT wb).length = (askS wb).length + 1 := by cases wb <;> rfl
          have hd1 : xs.drop (n + (askT wb).length) = Cnd.cTx c ++ (32 :: 91 :: z) := by rw [← List.drop_drop, hd, List.drop_left]
          refine ⟨_, rfl, _, rfl, _, rfl, _, rfl, _, rfl, lw wb, _, _, rfl, rfl, _, _, rfl, rfl, gs, xs, 32 :: 91 :: z, n + (askT wb).length, c, ?_, hg, hd1, by omega, hl, hok, hdp, ?_, fun H4 p y s4 np hp hy => ?_⟩
          · show [tx gs, tx xs, V.int (((n : Nat) : Int) + ((askS wb).length : Int) + 1)] = _
            rw [elw, show ((n : Nat) : Int) + ((askS wb).length : Int) + 1 = ((n + ((askS wb).length + 1) : Nat) : Int) by omega]
          · intro d r e
            injection e with e1 _
            omega
          refine ⟨p, _, rfl, sqT hp, rfl, _, _, rfl, _, _, rfl, rfl, ?_⟩
          try dsimp only [gName, tSeq, tAsg, List.set_cons_zero, List.set_cons_succ]
          have hd2 : xs.drop (n + (askT wb).length + (Cnd.cTx c).length) = 32 :: 91 :: z := by rw [← List.drop_drop, hd1, List.drop_left]
          refine ⟨_, rfl, rfl, _, rfl, S xs, S [32, 91], ((n + (askT wb).length + (Cnd.cTx c).length : Nat) : Int), rfl, rfl, _, rfl, ?_⟩
          rw [sw3 (by omega), hd2]
          rw [decide_eq_true (show [32, 91] <+: 32 :: 91 :: z from ⟨z, rfl⟩)]
          refine iteF ?_
          refine ⟨_, rfl, _, rfl, (by show 2 ≤ sizeLine; decide), fun T nT => ⟨_, rfl, _, rfl, (by show 2 ≤ sizeLine; decide), _, _, rfl, rfl, (by show 2 ≤ sizeLine; decide), fun U nU => ?_⟩⟩
          have sT := same_new (o := .tup [V.str (askS wb), y]) nT
          have sU := same_new (o := .tup [V.ref T, V.int (((n + (askT wb).length + (Cnd.cTx c).length : Nat) : Int) + 2)]) nU
          have s5 := s2.trans (s4.trans sT)
          refine q _ U T y (s5.trans sU) (none_of s5 nU) ?_ (sU _ _ upd_same) ((hy.same sT).same sU)
          show upd _ U (.tup [V.ref T, V.int (((n + (askT wb).length + (Cnd.cTx c).length : Nat) : Int) + 2)]) U = _
          rw [upd_same, show ((n + (askT wb).length + (Cnd.cTx c).length : Nat) : Int) + 2 = ((n + ((askT wb).length + ((Cnd.cTx c).length + 2)) : Nat) : Int) by omega]
        · rw [decide_eq_false (show ¬ askT wb <+: askT b ++ (Cnd.cTx c ++ (32 :: 91 :: z)) from fun ⟨t, e⟩ => hb (by
            cases wb <;> cases b
            · rfl
            · simp [askT] at e
            · simp [askT] at e
            · rfl))]
          refine iteF ⟨_, rfl, s2, ?_⟩
          rcases hib with rfl | ⟨rfl, rfl⟩
          · refine .inr ⟨rfl, ?_⟩
            have : wb = true := by cases wb with
              | true => rfl
              | false => cases hwi
            subst this
            cases b with
            | true => exact absurd rfl hb
            | false => rfl
          · have : wb = false := by cases wb with
              | true => cases hwi
              | false => rfl
            exact absurd this hb
      · rintro σ H2 ⟨v3, rfl, s2, hib⟩
        have hib : (2 = 0 ∨ (2 = 1 ∧ b = false)) := hib
        omega
end
end Own

namespace Own
open PySem PySem.Spec PyProof.Rows L2 SX RZ
section
variable {P : Program} {w : World} {K : PySem.W.Frag} {mg : Str → Option Value} {base : Heap}
def spCbr (C : Addr) : Sp := fun vs H Q _ => ∃ (H0 : Hp) (FL : Addr) (o : Prg.Op) (d d2 : Prg.Pr) (fs : List (Prg.Op × Prg.Pr)), vs = [.ref FL] ∧ StkAt H0 H C FL ((o, d2) :: fs) d ∧ Prg.some? d = true ∧ Prg.size d ≤ 100000 ∧ Prg.size d2 ≤ 100000 ∧ fs.length ≤ 100000 ∧
  ∀ H', StkAt H0 H' C FL (Prg.clo1 d o d2 fs).2.2 (Prg.clo1 d o d2 fs).2.1 → Q (.bl (Prg.clo1 d o d2 fs).1) H'
abbrev sCbr : Stmt := topS 88
abbrev cbrN : List Str := ["frames", "frame"]
theorem scCbr : FnScope cbrN ["frames"] (defScope sCbr) := ⟨rfl, rfl, rfl, by decide +kernel, rfl, by decide +kernel, by decide +kernel⟩
theorem ok_cbr {f : Addr} {fd : FuncData} (F : Fun K "close_bracket" "close_bracket" sCbr f fd) (m_len : mg "len" = none) {f1 : Addr} {fd1 : FuncData} (c1 : Cl P w K mg base "block_of" 1 ["programs"] spBo f1 fd1) {C : Addr} (T : BgC K C) :
    FnOk P w K mg base CX0 2 f fd ["frames"] (spCbr C) := by
  refine F.ok scCbr (fun vs H Q E h => ?_) (fun cdv A outer s H vs Q E hr h => ?_)
  · obtain ⟨H0, FL, o, d, d2, fs, rfl, _⟩ := h
    rfl
  · obtain ⟨H0, FL, o, d, d2, fs, rfl, hS, hd, hz, hz2, hlf, q⟩ := h
    refine ⟨_, (pss_cons (ps_if (pt_cmpR op_eq (pe_callB (callLenC (K := K) rfl) (by rfl) m_len PySem.boot_len (pa_cons (pv 0) pa_nil)) pe_int (nomark _)) pss_never pss_nil)
      (pss_cons (ps_set (i := 1) scCbr.nd rfl (by first | exact .inl rfl | exact .inr rfl) (pe_ix (ixL (K := K) rfl) (pv 0) (pe_un un_neg pe_int) (fun _ _ => rfl)))
      (pss_cons (ps_expr (pe_bm PySem.F.plainAttrs_list PySem.F.slot_list_append PySem.F.type_list_append mt_append (pe_fld (pv 1) (by rfl)) (pa_cons (pe_cl c1 hr (by decide) (by rfl) (pa_cons (pe_fld (pv 1) (by rfl)) pa_nil)) pa_nil)))
      (pss_cons (ps_fld (pv 1) (pe_lst pa_nil) (by rfl))
      (pss_cons (ps_if (PW.pt (pw_and (pt_cmpR op_eq (pe_ix (ixT (K := K) rfl) (pe_fld (pv 1) (by rfl)) pe_int (fun _ _ => rfl)) pe_str (nomark _)) (pw_and1 (pt_cmpR op_eq (pe_callB (callLenC (K := K) rfl) (by rfl) m_len PySem.boot_len (pa_cons (pe_fld (pv 1) (by rfl)) pa_nil)) pe_int (nomark _))))) (pss_one (ps_ret pe_bl)) pss_nil)
      (pss_cons (ps_expr (pe_bm0 PySem.F.plainAttrs_list PySem.F.slot_list_pop PySem.F.type_list_pop mt_pop (pv 0)))
      (pss_cons (ps_expr (pe_bm PySem.F.plainAttrs_list PySem.F.slot_list_append PySem.F.type_list_append mt_append (pe_fld (pe_ix (ixL (K := K) rfl) (pv 0) (pe_un un_neg pe_int) (fun _ _ => rfl)) (by rfl)) (pa_cons (pe_tup (StX.pa_star (pe_fld (pv 1) (by rfl)) (StX.pa_star (pe_fld (pv 1) (by rfl)) pa_nil))) pa_nil)))
      (pss_one (ps_ret pe_bl))))))))), ?_⟩
    obtain ⟨as, os, hF, hnd, hst, hfr, s0⟩ := hS
    have hall := hst.has
    obtain ⟨a, cl, g, as2, os2, rfl, rfl, ⟨dx, hv, cs, vs, h1, h2, h3, h4, h5⟩, ht⟩ := hst
    obtain ⟨a2, cl2, g2, as3, os3, o2, e1, e2, ⟨dx2, hv2, cs2, vs2, k1, k2, k3b, k4, k5⟩, htop⟩ := ht.top
    have hlas := ht.len
    have hvl := sq_many h5
    have hvl2 := sq_many k5
    have hv0 := sq_full h5 hd
    have nd : FL ∉ (a :: cl :: g :: os2) ∧ a ∉ (cl :: g :: os2) ∧ cl ∉ (g :: os2) ∧ g ∉ os2 ∧ os2.Nodup := by
      simpa only [List.nodup_cons] using hnd
    obtain ⟨n1, n2, n3, n4, n5⟩ := nd
    have hF1 : H FL = some (.lst (as2.reverse.map V.ref ++ [V.ref a])) := by rw [hF, List.reverse_cons, List.map_append]; rfl
    have mo : ∀ b, b ∈ os2 → H b ≠ none := fun b hb => ht.has b hb
    have s100 : ∀ n : Nat, n ≤ 200001 → n < sizeLine := fun n hn => by rw [sizeLine_eq]; omega
    refine ⟨_, rfl, FL, _, rfl, .inl (sqL hF1), rfl, _, rfl, ?_⟩
    rw [decide_eq_false (fun e => by injection e with e; rw [List.length_append, List.length_map, List.length_reverse, hlas] at e; simp at e; omega)]
    refine iteF ?_
    refine ⟨_, rfl, 1, rfl, FL, _, -1, _, rfl, rfl, sqL hF1, atI_last _ _, ?_⟩
    try dsimp only [gName, tSeq, tAsg, List.set_cons_zero, List.set_cons_succ]
    refine ⟨_, rfl, a, C, dx, _, _, rfl, h1, T.cls, T.nc, rfl, .inl ⟨rfl, _, sqL h3⟩, _, rfl, a, C, dx, _, _, rfl, h1, T.cls, T.ng, rfl, g, vs, rfl, h4, by intro e; rw [e] at hv0; simp at hv0, by omega, fun Ha bv sa hb => ?_⟩
    have hcs : cs.length ≤ 1 := by
      cases o with
      | whil c r => obtain ⟨t, y, _, _, _, z⟩ := h2; rw [z]; exact Nat.zero_le _
      | fst c q r => obtain ⟨t, y, _, _, _, z⟩ := h2; rw [z]; exact Nat.zero_le _
      | snd c p r => obtain ⟨t, y, x, _, _, _, z, _⟩ := h2; rw [z]; exact Nat.le_refl _
    refine ⟨cl, cs, bv, rfl, rfl, sa _ _ h3, s100 _ (by omega), ?_⟩
    refine ⟨Nat.zero_le _, fun G nG => ?_⟩
    have ca : a ≠ cl := fun e => n2 (e ▸ List.mem_cons_self ..)
    have cg : cl ≠ g := fun e => n3 (e ▸ List.mem_cons_self ..)
    have nGcl : G ≠ cl := fun e => by rw [e, upd_same] at nG; cases nG
    have nGa : Ha G = none := by rw [upd_ne nGcl] at nG; exact nG
    have G_new : ∀ b, H b ≠ none → b ≠ G := fun b hb e => by
      cases e1 : H b with
      | none => exact hb e1
      | some o => have := sa _ _ e1; rw [e, nGa] at this; cases this
    have aG : a ≠ G := G_new a (by rw [h1]; exact fun z => nomatch z)
    refine ⟨_, rfl, a, C, dx, _, rfl, by rw [upd_ne aG, upd_ne ca]; exact sa _ _ h1, T.cls, T.ng, (by show 3 < 1000; decide), ?_⟩
    obtain ⟨H3, eH3⟩ : ∃ H3, H3 = upd (upd (upd Ha cl (.lst (cs ++ [bv]))) G (.lst [])) a (.ins C dx (putF "gathered" (.ref G) [("head", hv), ("closed", .ref cl), ("gathered", .ref g)])) := ⟨_, rfl⟩
    try dsimp only [gName, tSeq, tAsg, List.set_cons_zero, List.set_cons_succ]
    rw [← eH3]
    have k3 : ∀ b, b ≠ cl → b ≠ a → b ≠ G → H3 b = Ha b := fun b b1 b2 b3 => by rw [eH3, upd_ne b2, upd_ne b3, upd_ne b1]
    have a3 : H3 a = some (.ins C dx [("head", hv), ("closed", .ref cl), ("gathered", .ref G)]) := by rw [eH3, upd_same]; rfl
    have c3 : H3 cl = some (.lst (cs ++ [bv])) := by rw [eH3, upd_ne ca.symm, upd_ne nGcl.symm, upd_same]
    have g3 : H3 G = some (.lst []) := by rw [eH3, upd_ne aG.symm, upd_same]
    have t3 : ∀ b xs, H b = some (.tup xs) → H3 b = some (.tup xs) := fun b xs e => by
      rw [k3 b (fun z => by rw [z, h3] at e; cases e) (fun z => by rw [z, h1] at e; cases e) (G_new b (by rw [e]; exact fun z => nomatch z))]
      exact sa _ _ e
    have t3a : ∀ b xs, Ha b = some (.tup xs) → H3 b = some (.tup xs) := fun b xs e => by
      rw [k3 b (fun z => by rw [z, sa _ _ h3] at e; cases e) (fun z => by rw [z, sa _ _ h1] at e; cases e) (fun z => by rw [z, nGa] at e; cases e)]
      exact e
    have Hs3 : Same H0 H3 := fun b o e => by
      have f0 : ∀ x ∈ FL :: a :: cl :: g :: os2, b ≠ x := fun x hx z => by rw [z, hfr x hx] at e; cases e
      have e1 := s0 _ _ e
      rw [k3 b (f0 _ (by simp)) (f0 _ (by simp)) (G_new b (by rw [e1]; exact fun z => nomatch z))]
      exact sa _ _ e1
    have G0 : H0 G = none := by
      cases e : H0 G with
      | none => rfl
      | some o => have := sa _ _ (s0 _ _ e); rw [nGa] at this; cases this
    have F3 : H3 FL = some (.lst (as2.reverse.map V.ref ++ [V.ref a])) := by
      rw [k3 FL (fun e => n1 (by rw [e]; simp)) (fun e => n1 (by rw [e]; simp)) (G_new FL (by rw [hF1]; exact fun z => nomatch z))]
      exact sa _ _ hF1
    have o3 : ∀ b ∈ os2, H3 b = Ha b := fun b hb => k3 b (fun e => n3 (by rw [← e]; simp [hb])) (fun e => n2 (by rw [← e]; simp [hb])) (G_new b (mo b hb))
    have oa : ∀ b ∈ os2, Ha b = H b := fun b hb => by
      cases e : H b with
      | none => exact absurd e (mo b hb)
      | some o => exact sa _ _ e
    have ht3 : StkH H3 C fs d2 as2 os2 := ht.keep t3 fun b hb => (o3 b hb).trans (oa b hb)
    have bl3 : PgH H3 d bv := ⟨vs, h5.keep t3, hb.keep t3a⟩
    have one : V.str (Str.ofString "while") ≠ V.str (Str.ofString "if") := by decide +kernel
    have hpk : (∃ c q r2 t y, o = .fst c q r2 ∧ hv = .ref t ∧ H t = some (.tup [.str (Str.ofString "if"), y]) ∧ CdH H c y ∧ cs = []) ∨
        ∃ (nd : Prg.Pr) (t : Addr) (k0 : Str) (y : V), hv = .ref t ∧ H t = some (.tup [.str k0, y]) ∧ (V.str k0 = V.str (Str.ofString "if") → V.int (((cs ++ [bv]).length : Nat) : Int) ≠ V.int 1) ∧ Prg.clo1 d o d2 fs = (true, Prg.cat d2 nd, fs) ∧
          ∀ N H5, (∀ b xs, H3 b = some (.tup xs) → H5 b = some (.tup xs)) → H5 N = some (.tup ([.str k0, y] ++ (cs ++ [bv]))) → SqH H5 nd [.ref N] := by
      cases o with
      | fst c qq r2 =>
        obtain ⟨t, y, e, ht1, hy, e2⟩ := h2
        exact .inl ⟨c, qq, r2, t, y, rfl, e, ht1, hy, e2⟩
      | whil c r2 =>
        obtain ⟨t, y, e, ht1, hy, rfl⟩ := h2
        exact .inr ⟨.whil c d .nil, t, _, y, e, ht1, fun z => absurd z one, rfl, fun N H5 k5 hN => ⟨N, y, bv, vs, [], rfl, hN, hy.keep fun b xs z => k5 _ _ (t3 _ _ z), h5.keep (fun b xs z => k5 _ _ (t3 _ _ z)), hb.keep (fun b xs z => k5 _ _ (t3a _ _ z)), rfl⟩⟩
      | snd c p r2 =>
        obtain ⟨t, y, x, e, ht1, hy, rfl, xs, hx, bx⟩ := h2
        exact .inr ⟨.cond c p d .nil, t, _, y, e, ht1, fun _ z => by injection z with z; simp at z, rfl, fun N H5 k5 hN => ⟨N, y, x, bv, xs, vs, [], rfl, hN, hy.keep fun b xs z => k5 _ _ (t3 _ _ z), hx.keep (fun b xs z => k5 _ _ (t3 _ _ z)), bx.keep (fun b xs z => k5 _ _ (t3 _ _ z)), h5.keep (fun b xs z => k5 _ _ (t3 _ _ z)), hb.keep (fun b xs z => k5 _ _ (t3a _ _ z)), rfl⟩⟩
    have FG : FL ≠ G := G_new FL (by rw [hF1]; exact fun z => nomatch z)
    rcases hpk with ⟨c, qq, r2, t, y, rfl, rfl, ht1, hy, rfl⟩ | ⟨node, t, k0, y, rfl, ht1, hk0, ec, hnode⟩
    · refine ⟨_, rfl, a, C, dx, _, _, rfl, a3, T.cls, T.nh, rfl, t, _, 0, _, rfl, rfl, sqT (t3 _ _ ht1), atI_nat (j := 0) rfl, rfl, _, rfl, ?_⟩
      rw [decide_eq_true rfl]
      refine iteT ?_
      refine ⟨_, rfl, a, C, dx, _, _, rfl, a3, T.cls, T.nc, rfl, cl, _, rfl, .inl (sqL c3), rfl, _, rfl, ?_⟩
      rw [show decide (V.int ((([] ++ [bv] : List V).length : Nat) : Int) = V.int 1) = true from decide_eq_true rfl]
      refine iteT ?_
      refine q H3 ⟨a :: as2, a :: cl :: G :: os2, by rw [F3, List.reverse_cons, List.map_append]; rfl, ?_, ⟨a, cl, G, as2, os2, rfl, rfl, ⟨dx, _, _, _, a3, ⟨t, y, bv, rfl, t3 _ _ ht1, hy.keep t3, rfl, bl3⟩, c3, g3, rfl⟩, ht3⟩, ?_, Hs3⟩
      · simp only [List.nodup_cons, List.mem_cons, not_or] at n1 n2 n3 ⊢
        exact ⟨⟨n1.1, n1.2.1, FG, n1.2.2.2⟩, ⟨n2.1, aG, n2.2.2⟩, ⟨nGcl.symm, n3.2⟩, fun hG => (mo G hG) (by cases e : H G with | none => rfl | some o => have := sa _ _ e; rw [nGa] at this; cases this), n5⟩
      · intro b hb
        rcases List.mem_cons.mp hb with rfl | hb
        · exact hfr _ (by simp)
        simp only [List.mem_cons] at hb
        rcases hb with rfl | rfl | rfl | hb
        · exact hfr _ (by simp)
        · exact hfr _ (by simp)
        · exact G0
        · exact hfr _ (by simp [hb])
    refine if_pick False (fun z => z.elim) (fun _ => ?_) (fun k _ kf => ?_)
    rotate_left
    · refine ⟨_, rfl, a, C, dx, _, _, rfl, a3, T.cls, T.nh, rfl, t, _, 0, _, rfl, rfl, sqT (t3 _ _ ht1), atI_nat (j := 0) rfl, rfl, _, rfl, ?_⟩
      by_cases e0 : V.str k0 = V.str (Str.ofString "if")
      · rw [decide_eq_true e0]
        refine iteT ?_
        refine ⟨_, rfl, a, C, dx, _, _, rfl, a3, T.cls, T.nc, rfl, cl, _, rfl, .inl (sqL c3), rfl, _, rfl, ?_⟩
        rw [decide_eq_false (hk0 e0)]
        exact kf fun z => z
      · rw [decide_eq_false e0]
        exact iteF (kf fun z => z)
    rw [ec] at q
    refine ⟨_, rfl, .inl ⟨rfl, _, sqL F3⟩, FL, _, _, rfl, rfl, F3, get_last, ?_⟩
    rw [List.dropLast_concat]
    have nFa : FL ≠ a := fun e => n1 (by rw [e]; simp)
    have nFc : FL ≠ cl := fun e => n1 (by rw [e]; simp)
    have nFo : ∀ b ∈ os2, b ≠ FL := fun b hb e => n1 (by rw [← e]; simp [hb])
    obtain ⟨H4, eH4⟩ : ∃ H4, H4 = upd H3 FL (.lst (as2.reverse.map V.ref)) := ⟨_, rfl⟩
    try dsimp only [gName, tSeq, tAsg, List.set_cons_zero, List.set_cons_succ]
    rw [← eH4]
    have k4' : ∀ b, b ≠ FL → H4 b = H3 b := fun b hb => by rw [eH4, upd_ne hb]
    have t4 : ∀ b xs, H3 b = some (.tup xs) → H4 b = some (.tup xs) := fun b xs e => by rw [eH4]; exact tup_keep F3 _ _ e
    have F4 : H4 FL = some (.lst (as3.reverse.map V.ref ++ [V.ref a2])) := by rw [eH4, upd_same, e1, List.reverse_cons, List.map_append]; rfl
    have o4 : ∀ b ∈ os2, H4 b = H b := fun b hb => ((k4' b (nFo b hb)).trans (o3 b hb)).trans (oa b hb)
    have a2m : a2 ∈ os2 := by rw [e2]; simp
    have g2m : g2 ∈ os2 := by rw [e2]; simp
    have a4 := (k4' a nFa.symm).trans a3
    have c4 := (k4' cl nFc.symm).trans c3
    have A2 := (o4 _ a2m).trans k1
    have G2 := (o4 _ g2m).trans k4
    refine ⟨_, rfl, 1, rfl, FL, _, -1, _, rfl, rfl, sqL F4, atI_last _ _, a2, C, dx2, _, _, rfl, A2, T.cls, T.ng, rfl, .inl ⟨rfl, _, sqL G2⟩, _, rfl, a, C, dx, _, _, rfl, a4, T.cls, T.nh, rfl, t, _, rfl, .inl (sqT (t4 _ _ (t3 _ _ ht1))), _, rfl, a, C, dx, _, _, rfl, a4, T.cls, T.nc, rfl, cl, _, rfl, .inr (sqL c4), ?_, fun N nN => ?_⟩
    · simp only [List.length_append, List.length_cons, List.length_nil]
      have := s100 10 (by decide)
      omega
    rw [List.append_nil]
    have sN := same_new (o := .tup ([V.str k0, y] ++ (cs ++ [bv]))) nN
    refine ⟨g2, vs2, _, rfl, rfl, sN _ _ G2, s100 _ (by omega), ?_⟩
    have nd3 : a2 ∉ (cl2 :: g2 :: os3) ∧ cl2 ∉ (g2 :: os3) ∧ g2 ∉ os3 ∧ os3.Nodup := by
      rw [e2] at n5
      simpa only [List.nodup_cons] using n5
    obtain ⟨m1, m2, m3, m4⟩ := nd3
    have k6 : ∀ b ∈ os2, b ≠ g2 → upd (upd H4 N (.tup ([V.str k0, y] ++ (cs ++ [bv])))) g2 (.lst (vs2 ++ [V.ref N])) b = H b := fun b hb nb => by
      rw [upd_ne nb]
      cases e : H b with
      | none => exact absurd e (mo b hb)
      | some o => exact sN _ _ ((o4 b hb).trans e)
    have t6 : ∀ b xs, H3 b = some (.tup xs) → upd (upd H4 N (.tup ([V.str k0, y] ++ (cs ++ [bv])))) g2 (.lst (vs2 ++ [V.ref N])) b = some (.tup xs) := fun b xs e => tup_keep (sN _ _ G2) _ _ (sN _ _ (t4 _ _ e))
    have hN := hnode N (upd (upd H4 N (.tup ([V.str k0, y] ++ (cs ++ [bv])))) g2 (.lst (vs2 ++ [V.ref N]))) t6 (tup_keep (sN _ _ G2) _ _ upd_same)
    have F6 : upd (upd H4 N (.tup ([V.str k0, y] ++ (cs ++ [bv])))) g2 (.lst (vs2 ++ [V.ref N])) FL = some (.lst (as3.reverse.map V.ref ++ [V.ref a2])) := by
      rw [upd_ne (nFo g2 g2m).symm]
      exact sN _ _ F4
    refine q _ ⟨as2, os2, by rw [F6, e1, List.reverse_cons, List.map_append]; rfl, ?_, ?_, ?_, ?_⟩
    · exact List.nodup_cons.mpr ⟨fun h => n1 (by simp [h]), n5⟩
    · have fin : FrmH (upd (upd H4 N (.tup ([V.str k0, y] ++ (cs ++ [bv])))) g2 (.lst (vs2 ++ [V.ref N]))) C o2 (Prg.cat d2 node) a2 cl2 g2 :=
        ⟨dx2, hv2, cs2, vs2 ++ [V.ref N], (k6 a2 a2m (fun e => m1 (by rw [e]; simp))).trans k1, k2.keep fun b xs z => t6 _ _ (t3 _ _ z), (k6 cl2 (by rw [e2]; simp) (fun e => m2 (by rw [e]; simp))).trans k3b, upd_same, sq_cat hN (k5.keep fun b xs z => t6 _ _ (t3 _ _ z))⟩
      have rst : ∀ b ∈ os3, upd (upd H4 N (.tup ([V.str k0, y] ++ (cs ++ [bv])))) g2 (.lst (vs2 ++ [V.ref N])) b = H b := fun b hb => k6 b (by rw [e2]; simp [hb]) (fun e => m3 (by rw [← e]; exact hb))
      rw [e2]
      exact htop _ _ g2 (fun b xs z => t6 _ _ (t3 _ _ z)) rst fin
    · intro b hb
      rcases List.mem_cons.mp hb with rfl | hb
      · exact hfr _ (by simp)
      · exact hfr _ (by simp [hb])
    · intro b o e
      have f0 : ∀ x ∈ FL :: a :: cl :: g :: os2, b ≠ x := fun x hx z => by rw [z, hfr x hx] at e; cases e
      rw [upd_ne (f0 _ (by simp [g2m]))]
      exact sN _ _ ((k4' b (f0 _ (by simp))).trans (Hs3 _ _ e))
end
end Own

namespace Own
open PySem PySem.Spec PyProof.Rows L2 SX RZ
section
variable {P : Program} {w : World} {K : PySem.W.Frag} {mg : Str → Option Value} {base : Heap}
def OkOp (gs : List Nat) : Prg.Op → Prop
  | .whil _ r => OkT gs r
  | .fst _ q r => Prg.some? q = true ∧ OkT gs q ∧ OkT gs r
  | .snd _ _ r => OkT gs r
def spNxp (C : Addr) : Sp := fun vs H Q _ => ∃ (H0 : Hp) (FL : Addr) (gs xs : List Nat) (n : Nat) (d r p0 : Prg.Pr) (fs : List (Prg.Op × Prg.Pr)), vs = [.ref FL, tx xs, iv n] ∧ StkAt H0 H C FL fs d ∧ xs.drop n = Prg.rest r (Prg.ops fs) ∧ n ≤ xs.length ∧ xs.length ≤ 100000 ∧ Prg.some? d = true ∧ Prg.tot (Prg.cat d r) fs = p0 ∧ Prg.size p0 ≤ 100000 ∧ OkT gs r ∧ (∀ f ∈ fs, OkOp gs f.1) ∧
  (∀ H', StkAt H0 H' C FL [] p0 → Q .non H') ∧
  ∀ H' n' d' r' fs', StkAt H0 H' C FL fs' d' → xs.drop n' = Prg.bef r' (Prg.ops fs') → n < n' → n' ≤ xs.length → Prg.some? r' = true → Prg.tot (Prg.cat d' r') fs' = p0 → OkT gs r' → (∀ f ∈ fs', OkOp gs f.1) → Q (iv n') H'
abbrev sNxp : Stmt := topS 89
abbrev nxpN : List Str := ["frames", "text", "at", "end"]
theorem scNxp : FnScope nxpN ["frames", "text", "at"] (defScope sNxp) := ⟨rfl, rfl, rfl, by decide +kernel, rfl, by decide +kernel, by decide +kernel⟩
theorem ok_nxp {f : Addr} {fd : FuncData} (F : Fun K "next_place" "next_place" sNxp f fd) (m_len : mg "len" = none) {f1 : Addr} {fd1 : FuncData} (c1 : Cl P w K mg base "close_bracket" 2 ["frames"] (spCbr C) f1 fd1) :
    FnOk P w K mg base CX0 3 f fd ["frames", "text", "at"] (spNxp C) := by
  refine F.ok scNxp (fun vs H Q E h => ?_) (fun cdv A outer s H vs Q E hr h => ?_)
  · obtain ⟨H0, FL, gs, xs, n, d, r, p0, fs, rfl, _⟩ := h
    rfl
  · obtain ⟨H0, FL, gs, xs, n0, d0, r0, p0, fs0, rfl, hS0, hd0, hn0, hl, hs0, hp0, hz, hr0, hf0, q1, q2⟩ := h
    refine ⟨_, (pss_cons (ps_set (i := 3) scNxp.nd rfl (by first | exact .inl rfl | exact .inr rfl) (pv 2))
      (pss_cons (ps_while PassesOwn.never (pt_val (pe_bm PySem.F.plainAttrs_str PySem.F.slot_str_startswith PySem.F.type_str_startswith mt_startswith3 (pv 1) (pa_cons pe_str (pa_cons (pv 3) pa_nil))))
        (pss_one (ps_if (pt_val (pe_cl c1 hr (by decide) (by rfl) (pa_cons (pv 0) pa_nil))) (pss_one (ps_aug (i := 3) scNxp.nd rfl (by first | exact .inl rfl | exact .inr rfl) pe_int ip_add)) (pss_one (ps_if (pt_val (pe_bm PySem.F.plainAttrs_str PySem.F.slot_str_startswith PySem.F.type_str_startswith mt_startswith3 (pv 1) (pa_cons pe_str (pa_cons (pv 3) pa_nil)))) (pss_one (ps_ret (pe_op op_add (pv 3) (pe_callB call_len_str (by rfl) m_len PySem.boot_len (pa_cons pe_str pa_nil))))) pss_never)))))
      (pss_cons (ps_if (pt_val (pe_bm PySem.F.plainAttrs_str PySem.F.slot_str_startswith PySem.F.type_str_startswith mt_startswith3 (pv 1) (pa_cons pe_str (pa_cons (pv 3) pa_nil)))) (pss_one (ps_ret (pe_op op_add (pv 3) (pe_callB call_len_str (by rfl) m_len PySem.boot_len (pa_cons pe_str pa_nil))))) pss_nil)
      (pss_cons (ps_if (PW.pt (pw_or (pt_cmpR op_lt (pv 3) (pe_callB call_len_str (by rfl) m_len PySem.boot_len (pa_cons (pv 1) pa_nil)) (nomark _)) (pw_or1 (pt_cmpR op_gt (pe_callB (callLenC (K := K) rfl) (by rfl) m_len PySem.boot_len (pa_cons (pv 0) pa_nil)) pe_int (nomark _))))) pss_never pss_nil)
      (pss_one (ps_ret pe_non)))))), ?_⟩
    have hz' : (S xs).length ≤ sizeLine := by rw [S_len, sizeLine_eq]; omega
    refine ⟨_, rfl, ?_⟩
    try dsimp only [gName, tSeq, tAsg, List.set_cons_zero, List.set_cons_succ]
    refine ⟨fun m σ H' => ∃ (n : Nat) (d r : Prg.Pr) (fs : List (Prg.Op × Prg.Pr)), σ = [some (.ref FL), some (tx xs), some (iv n0), some (iv n)] ∧ StkAt H0 H' C FL fs d ∧ xs.drop n = Prg.rest r (Prg.ops fs) ∧ n0 ≤ n ∧ n ≤ xs.length ∧ Prg.some? d = true ∧ Prg.tot (Prg.cat d r) fs = p0 ∧ OkT gs r ∧ (∀ f ∈ fs, OkOp gs f.1) ∧ m = fs.length,
      ⟨_, n0, d0, r0, fs0, rfl, hS0, hd0, Nat.le_refl _, hn0, hs0, hp0, hr0, hf0, rfl⟩, ?_⟩
    rintro m σ H1 ⟨n, d, r, fs, rfl, hS, hd, hnn, hn, hs, hp, hr, hf, rfl⟩
    have hsz : Prg.size d ≤ 100000 ∧ fs.length ≤ 100000 := by
      have := Prg.size_tot fs (Prg.cat d r)
      rw [hp, Prg.size_cat] at this
      omega
    refine ⟨_, rfl, rfl, _, rfl, S xs, S [93], ((n : Nat) : Int), rfl, rfl, _, rfl, ?_⟩
    rw [sw3 hn, hd]
    cases er : Prg.some? r with
    | true =>
      rw [Prg.rest_some er] at hd ⊢
      rw [decide_eq_false (show ¬ [93] <+: 59 :: 32 :: Prg.bef r (Prg.ops fs) from fun ⟨t, e⟩ => by injection e with e _; omega)]
      refine iteF ?_
      refine ⟨_, rfl, rfl, _, rfl, S xs, S [59, 32], ((n : Nat) : Int), rfl, rfl, _, rfl, ?_⟩
      rw [sw3 hn, hd]
      rw [decide_eq_true (show [59, 32] <+: 59 :: 32 :: Prg.bef r (Prg.ops fs) from ⟨_, rfl⟩)]
      refine iteT ?_
      have hl2 := congrArg List.length hd
      rw [List.length_drop, List.length_cons, List.length_cons] at hl2
      refine ⟨_, rfl, _, rfl, (by show 2 ≤ sizeLine; decide), _, _, rfl, rfl, ?_⟩
      show Q (V.int (((n : Nat) : Int) + 2)) H1
      rw [show ((n : Nat) : Int) + 2 = ((n + 2 : Nat) : Int) by omega]
      exact q2 _ (n + 2) d r fs hS (by rw [← List.drop_drop, hd]; rfl) (by omega) (by omega) er hp hr hf
    | false =>
      have e0 : r = .nil := by cases r with
        | nil => rfl
        | leaf _ _ => cases er
        | whil _ _ _ => cases er
        | cond _ _ _ _ => cases er
      subst e0
      rw [Prg.cat_nil] at hp
      match fs, hS, hd, hp, hf, hsz with
      | [], hS, hd, hp, _, _ =>
        have hd : xs.drop n = [] := hd
        show (if decide ([93] <+: ([] : List Nat)) = true then _ else _)
        rw [decide_eq_false (show ¬ [93] <+: ([] : List Nat) from fun ⟨t, e⟩ => by cases e)]
        refine iteF ?_
        refine ⟨_, rfl, rfl, _, rfl, S xs, S [59, 32], ((n : Nat) : Int), rfl, rfl, _, rfl, ?_⟩
        rw [sw3 hn, hd]
        rw [decide_eq_false (show ¬ [59, 32] <+: ([] : List Nat) from fun ⟨t, e⟩ => by cases e)]
        refine iteF ?_
        have hl2 := congrArg List.length hd
        rw [List.length_drop] at hl2
        have hl2 : xs.length - n = 0 := hl2
        have hp : d = p0 := hp
        subst hp
        obtain ⟨as, os, hF, hst⟩ := id hS
        have hla := hst.2.1.len
        have hla : as.length = 1 := hla
        refine ⟨_, rfl, _, rfl, S xs, rfl, hz', _, _, rfl, rfl, _, rfl, ?_⟩
        rw [S_len, dec_lt, decide_eq_false (by omega)]
        refine iteF ⟨_, rfl, FL, _, rfl, .inl (sqL hF), _, _, rfl, rfl, _, rfl, ?_⟩
        rw [decide_eq_false (by rw [List.length_map, List.length_reverse, hla]; decide)]
        exact iteF (q1 _ hS)
      | (o, d2) :: fs, hS, hd, hp, hf, hsz =>
        have ho := hf _ (List.mem_cons_self ..)
        have hf2 : ∀ f ∈ fs, OkOp gs f.1 := fun f h => hf f (.tail _ h)
        have hsz2 : Prg.size d2 ≤ 100000 ∧ fs.length ≤ 100000 := by
          have h2 : ∀ x, Prg.tot (Prg.cat d2 x) fs = p0 → Prg.size d2 ≤ 100000 ∧ fs.length ≤ 100000 := fun x e => by
            have := Prg.size_tot fs (Prg.cat d2 x)
            rw [e, Prg.size_cat] at this
            omega
          cases o with
          | whil c r2 => exact h2 _ hp
          | fst c q r2 => exact h2 _ hp
          | snd c p r2 => exact h2 _ hp
        have h93 : ∃ t, Prg.rest .nil (Prg.ops ((o, d2) :: fs)) = 93 :: t := by cases o <;> exact ⟨_, rfl⟩
        obtain ⟨t93, e93⟩ := h93
        have hl2 := congrArg List.length (hd.trans e93)
        rw [List.length_drop, List.length_cons] at hl2
        rw [decide_eq_true (show [93] <+: Prg.rest .nil (Prg.ops ((o, d2) :: fs)) from ⟨t93, e93.symm⟩)]
        refine iteT ⟨fun σ H' => ∃ (n' : Nat) (d' r' : Prg.Pr), σ = [some (.ref FL), some (tx xs), some (iv n0), some (iv n')] ∧ StkAt H0 H' C FL fs d' ∧ xs.drop n' = Prg.rest r' (Prg.ops fs) ∧ n0 ≤ n' ∧ n' ≤ xs.length ∧ Prg.some? d' = true ∧ Prg.tot (Prg.cat d' r') fs = p0 ∧ OkT gs r', ?_, ?_⟩
        · rintro σ' H' ⟨n', d', r', rfl, h1, h2, h3, h4, h5, h6, h7⟩
          exact ⟨fs.length, Nat.lt_succ_self _, n', d', r', fs, rfl, h1, h2, h3, h4, h5, h6, h7, hf2, rfl⟩
        · refine ⟨_, rfl, H0, FL, o, d, d2, fs, rfl, hS, hs, hsz.1, hsz2.1, hsz2.2, fun H' hS' => ⟨_, rfl, ?_⟩⟩
          have step : ∀ (nd r2 : Prg.Pr), Prg.some? nd = true → StkAt H0 H' C FL fs (Prg.cat d2 nd) → xs.drop n = 93 :: Prg.rest r2 (Prg.ops fs) → Prg.tot (Prg.cat (Prg.cat d2 nd) r2) fs = p0 → OkT gs r2 →
              ∃ (n' : Nat) (d' r' : Prg.Pr), [some (V.ref FL), some (tx xs), some (iv n0), some (V.int (((n : Nat) : Int) + 1))] = [some (.ref FL), some (tx xs), some (iv n0), some (iv n')] ∧ StkAt H0 H' C FL fs d' ∧ xs.drop n' = Prg.rest r' (Prg.ops fs) ∧ n0 ≤ n' ∧ n' ≤ xs.length ∧ Prg.some? d' = true ∧ Prg.tot (Prg.cat d' r') fs = p0 ∧ OkT gs r' :=
            fun nd r2 h1 h2 h3 h4 h5 => ⟨n + 1, _, r2, by rw [show ((n : Nat) : Int) + 1 = ((n + 1 : Nat) : Int) by omega], h2, by rw [← List.drop_drop, h3]; rfl, by omega, by omega, Prg.some_cat h1 _, h4, h5⟩
          cases o with
          | whil c r2 =>
            refine iteT ⟨_, rfl, _, _, rfl, rfl, step (.whil c d .nil) r2 rfl hS' hd ?_ ho⟩
            rw [Prg.cat_assoc]
            exact hp
          | snd c p r2 =>
            refine iteT ⟨_, rfl, _, _, rfl, rfl, step (.cond c p d .nil) r2 rfl hS' hd ?_ ho⟩
            rw [Prg.cat_assoc]
            exact hp
          | fst c q r2 =>
            have hd : xs.drop n = 93 :: 32 :: 91 :: Prg.bef q (.snd c d r2 :: Prg.ops fs) := hd
            have hl2 := congrArg List.length hd
            rw [List.length_drop, List.length_cons, List.length_cons, List.length_cons] at hl2
            refine iteF ?_
            refine ⟨_, rfl, rfl, _, rfl, S xs, S [93, 32, 91], ((n : Nat) : Int), rfl, rfl, _, rfl, ?_⟩
            rw [sw3 hn, hd]
            rw [decide_eq_true (show [93, 32, 91] <+: 93 :: 32 :: 91 :: Prg.bef q (.snd c d r2 :: Prg.ops fs) from ⟨_, rfl⟩)]
            refine iteT ?_
            refine ⟨_, rfl, _, rfl, (by show 3 ≤ sizeLine; decide), _, _, rfl, rfl, ?_⟩
            show Q (V.int (((n : Nat) : Int) + 3)) H'
            rw [show ((n : Nat) : Int) + 3 = ((n + 3 : Nat) : Int) by omega]
            refine q2 _ (n + 3) .nil q ((.snd c d r2, d2) :: fs) hS' (by rw [← List.drop_drop, hd]; rfl) (by omega) (by omega) ho.1 hp ho.2.1 fun f h => ?_
            rcases List.mem_cons.mp h with rfl | h
            · exact ho.2.2
            · exact hf2 f h
end
end Own

namespace Own
open PySem PySem.Spec PyProof.Rows L2 SX RZ
section
variable {P : Program} {w : World} {K : PySem.W.Frag} {mg : Str → Option Value} {base : Heap}
theorem mk_new {H H5 : Hp} {x dx : Addr} {o1 o2 : HO} (nx : H x = none) (ndx : H dx = none) (k : ∀ b o, b ≠ x → upd (upd H dx o1) x o2 b = some o → H5 b = some o) : Same H H5 := fun b o e => by
  have bx : b ≠ x := ne_of_none e nx
  refine k b o bx ?_
  rw [upd_ne bx, upd_ne (ne_of_none e ndx)]
  exact e
theorem mk_none {H : Hp} {x dx c : Addr} {o1 o2 : HO} (h : upd (upd H dx o1) x o2 c = none) : H c = none ∧ c ≠ x := by
  have cx : c ≠ x := fun z => by rw [z, upd_same] at h; cases h
  rw [upd_ne cx] at h
  have cd : c ≠ dx := fun z => by rw [z, upd_same] at h; cases h
  rw [upd_ne cd] at h
  exact ⟨h, cx⟩
def spPpr : Sp := fun vs H Q _ => ∃ (gs : List Nat) (p : Prg.Pr), vs = [tx gs, tx (Prg.pTx p)] ∧ Good gs ∧ (Prg.pTx p).length ≤ 100000 ∧ Prg.some? p = true ∧ OkT gs p ∧ ∀ H' v, Same H H' → PgH H' p v → Q v H'
abbrev sPpr : Stmt := topS 90
abbrev pprN : List Str := ["letters", "text", "frames", "at", "head", "leaf", "end"]
theorem scPpr : FnScope pprN ["letters", "text"] (defScope sPpr) := ⟨rfl, rfl, rfl, by decide +kernel, rfl, by decide +kernel, by decide +kernel⟩
theorem ok_ppr {f : Addr} {fd : FuncData} (F : Fun K "parse_program" "parse_program" sPpr f fd) {f1 : Addr} {fd1 : FuncData} (c1 : Cl P w K mg base "read_head" 10 ["letters", "text", "at"] spRhd f1 fd1) {f2 : Addr} {fd2 : FuncData} (c2 : Cl P w K mg base "read_leaf" 7 ["letters", "text", "at"] spRlf f2 fd2) {f3 : Addr} {fd3 : FuncData} (c3 : Cl P w K mg base "block_of" 1 ["programs"] spBo f3 fd3) {C fB : Addr} {fdB : FuncData} (T_ : BgC K C) {f4 : Addr} {fd4 : FuncData} (c4 : Cl P w K mg base "next_place" 3 ["frames", "text", "at"] (spNxp C) f4 fd4) (MB : Mk K C fB) (gB : mg "Begun" = some (.ref C)) (GB : FnOk P w K mg base CX0 1 fB fdB ["self", "head"] (spBgI C)) (bB : Binds K fdB ["self", "head"] []) :
    FnOk P w K mg base CX0 11 f fd ["letters", "text"] spPpr := by
  refine F.ok scPpr (fun vs H Q E h => ?_) (fun cdv A outer s H vs Q E hr h => ?_)
  · obtain ⟨gs, p, rfl, _⟩ := h
    rfl
  · obtain ⟨gs, p0, rfl, hg, hl, hs, hok, q⟩ := h
    refine ⟨_, (pss_cons (ps_set (i := 2) scPpr.nd rfl (by first | exact .inl rfl | exact .inr rfl) (pe_lst (pa_cons (pe_make MB GB (hr.mono (by decide)) (by rfl) gB bB .nil pass0 (pa_cons (pe_tup pa_nil) pa_nil)) pa_nil)))
      (pss_cons (ps_set (i := 3) scPpr.nd rfl (by first | exact .inl rfl | exact .inr rfl) pe_int)
      (pss_cons (ps_while PassesOwn.never (pt_cmpR op_notN (pv 3) pe_non (nomark _))
        (pss_cons (ps_asg (pe_cl c1 hr (by decide) (by rfl) (pa_cons (pv 0) (pa_cons (pv 1) (pa_cons (pv 3) pa_nil)))) (pg_tup rfl (pgs_cons (pg_name (i := 4) scPpr.nd rfl (by first | exact .inl rfl | exact .inr rfl)) (pgs_cons (pg_name (i := 3) scPpr.nd rfl (by first | exact .inl rfl | exact .inr rfl)) pgs_nil))))
      (pss_one (ps_if (pt_cmpR op_isN (pv 4) pe_non (nomark _)) (pss_cons (ps_asg (pe_cl c2 hr (by decide) (by rfl) (pa_cons (pv 0) (pa_cons (pv 1) (pa_cons (pv 3) pa_nil)))) (pg_tup rfl (pgs_cons (pg_name (i := 5) scPpr.nd rfl (by first | exact .inl rfl | exact .inr rfl)) (pgs_cons (pg_name (i := 6) scPpr.nd rfl (by first | exact .inl rfl | exact .inr rfl)) pgs_nil))))
      (pss_cons (ps_expr (pe_bm PySem.F.plainAttrs_list PySem.F.slot_list_append PySem.F.type_list_append mt_append (pe_fld (pe_ix (ixL (K := K) rfl) (pv 2) (pe_un un_neg pe_int) (fun _ _ => rfl)) (by rfl)) (pa_cons (pv 5) pa_nil)))
      (pss_one (ps_set (i := 3) scPpr.nd rfl (by first | exact .inl rfl | exact .inr rfl) (pe_cl c4 hr (by decide) (by rfl) (pa_cons (pv 2) (pa_cons (pv 1) (pa_cons (pv 6) pa_nil)))))))) (pss_one (ps_expr (pe_bm PySem.F.plainAttrs_list PySem.F.slot_list_append PySem.F.type_list_append mt_append (pv 2) (pa_cons (pe_make MB GB (hr.mono (by decide)) (by rfl) gB bB .nil pass0 (pa_cons (pv 4) pa_nil)) pa_nil))))))))
      (pss_one (ps_ret (pe_cl c3 hr (by decide) (by rfl) (pa_cons (pe_fld (pe_ix (ixL (K := K) rfl) (pv 2) pe_int (fun _ _ => rfl)) (by rfl)) pa_nil))))))), ?_⟩
    obtain ⟨xs, exs⟩ : ∃ xs, xs = Prg.pTx p0 := ⟨_, rfl⟩
    have hsz0 : Prg.size p0 ≤ 100000 := Nat.le_trans (Prg.size_text p0) hl
    rw [← exs] at hl ⊢
    have hz' : (S xs).length ≤ sizeLine := by rw [S_len, sizeLine_eq]; omega
    have s100 : ∀ n : Nat, n ≤ 200001 → n < sizeLine := fun n hn => by rw [sizeLine_eq]; omega
    refine ⟨Nat.zero_le _, fun T nT => ?_⟩
    have sT := same_new (o := .tup []) nT
    refine fun x dx nx ndx ne => ⟨x, dx, .ref T, rfl, upd_same, fun H1 cl g k1 ncl ng x1 x2 x3 e1 e2 e3 => ⟨rfl, ?_⟩⟩
    have hxT : x ≠ T := fun z => by rw [z, upd_same] at nx; cases nx
    have hx0 : H x = none := by rw [upd_ne hxT] at nx; exact nx
    have clx : cl ≠ x := x1.symm
    have gx : g ≠ x := x2.symm
    have k0 : Same H H1 := fun b o e => by
      have bx : b ≠ x := ne_of_none e hx0
      have bdx : b ≠ dx := ne_of_none (sT _ _ e) ndx
      refine k1 b o bx ?_
      rw [upd_ne bx, upd_ne bdx]
      exact sT _ _ e
    have Tx : T ≠ x := hxT.symm
    have Tdx : T ≠ dx := fun z => by rw [← z, upd_same] at ndx; cases ndx
    have hT1 : H1 T = some (.tup []) := by
      refine k1 T _ Tx ?_
      rw [upd_ne Tx, upd_ne Tdx, upd_same]
    have ncl0 : H cl = none := by
      rw [upd_ne clx] at ncl
      by_cases z : cl = dx
      · rw [z]; rw [upd_ne Tdx.symm] at ndx; exact ndx
      · rw [upd_ne z] at ncl
        by_cases z2 : cl = T
        · rw [z2, upd_same] at ncl; cases ncl
        · rw [upd_ne z2] at ncl; exact ncl
    have ng0 : H g = none := by
      rw [upd_ne gx] at ng
      by_cases z : g = dx
      · rw [z]; rw [upd_ne Tdx.symm] at ndx; exact ndx
      · rw [upd_ne z] at ng
        by_cases z2 : g = T
        · rw [z2, upd_same] at ng; cases ng
        · rw [upd_ne z2] at ng; exact ng
    refine ⟨(by show 1 ≤ sizeLine; decide), fun FL nFL => ?_⟩
    have sF := same_new (o := .lst [V.ref x]) nFL
    have F_ne : ∀ b o, H1 b = some o → FL ≠ b := fun b o e z => by rw [← z, nFL] at e; cases e
    have hS0 : StkAt H (upd H1 FL (.lst [V.ref x])) C FL [] .nil :=
      StkAt.first (k0.trans sF) (none_of' k0 nFL) hx0 ncl0 ng0 (F_ne _ _ e1) (F_ne _ _ e2) (F_ne _ _ e3) x1 x2 x3 upd_same (sF _ _ e1) (sF _ _ hT1) (sF _ _ e2) (sF _ _ e3)
    generalize upd H1 FL (.lst [V.ref x]) = HA at hS0 ⊢
    try dsimp only [gName, tSeq, tAsg, List.set_cons_zero, List.set_cons_succ]
    refine ⟨fun m σ H' => ∃ v3 v4 v5 v6, σ = [some (tx gs), some (tx xs), some (.ref FL), some v3, v4, v5, v6] ∧
        ((v3 = .non ∧ StkAt H H' C FL [] p0 ∧ m = 0) ∨ ∃ (n : Nat) (d r : Prg.Pr) (fs : List (Prg.Op × Prg.Pr)), v3 = iv n ∧ StkAt H H' C FL fs d ∧ xs.drop n = Prg.bef r (Prg.ops fs) ∧ n ≤ xs.length ∧ Prg.some? r = true ∧ Prg.tot (Prg.cat d r) fs = p0 ∧ OkT gs r ∧ (∀ f ∈ fs, OkOp gs f.1) ∧ m = xs.length - n + 1),
      ⟨_, _, none, none, none, rfl, .inr ⟨0, .nil, p0, [], rfl, hS0, exs, Nat.zero_le _, hs, rfl, hok, fun f h => (nomatch h), rfl⟩⟩, ?_⟩
    rintro m σ H2 ⟨v3, v4, v5, v6, rfl, ⟨rfl, hS, rfl⟩ | ⟨n, d, r, fs, rfl, hS, hd, hn, hr, hp, hok2, hf, rfl⟩⟩
    · refine ⟨_, rfl, rfl, _, rfl, ?_⟩
      refine iteF ?_
      obtain ⟨as2, a, cl2, g2, dx2, hv, vs, hF, hla, ha, hg2, hq, g0, _⟩ := hS.top
      have hla : as2.length = 0 := hla
      have e : as2 = [] := List.eq_nil_of_length_eq_zero hla
      subst e
      have hfull := sq_full hq hs
      have hmany := sq_many hq
      refine ⟨_, rfl, FL, _, 0, _, rfl, rfl, sqL hF, atI_nat (j := 0) rfl, a, C, dx2, _, _, rfl, ha, T_.cls, T_.ng, rfl, g2, vs, rfl, hg2, (fun e => by rw [e] at hfull; simp at hfull), by omega, fun H3 v s3 hb => ?_⟩
      obtain ⟨_, _, _, _, _, _, s5⟩ := id hS
      exact q _ v (s5.trans s3) ⟨vs, hq.keep (fun b xs e => s3 _ _ e), hb⟩
    refine ⟨_, rfl, rfl, _, rfl, ?_⟩
    refine iteT ?_
    obtain ⟨as, os, hFo, _, _, _, s5⟩ := id hS
    have hsz : Prg.size d ≤ 100000 ∧ fs.length ≤ 100000 := by
      have := Prg.size_tot fs (Prg.cat d r)
      rw [hp, Prg.size_cat] at this
      omega
    have endz : ∀ r fs, EndZ (Prg.rest r fs) := fun r fs c t e => by
      cases e2 : Prg.some? r with
      | true => rw [Prg.rest_some e2] at e; injection e with e _; exact .inl e.symm
      | false =>
        have e0 : r = .nil := by cases r with
          | nil => rfl
          | leaf _ _ => cases e2
          | whil _ _ _ => cases e2
          | cond _ _ _ _ => cases e2
        subst e0
        cases fs with
        | nil => cases e
        | cons f fs => cases f <;> (injection e with e _; exact .inr e.symm)
    refine ⟨_, fun _ _ h => h, ?_⟩
    -- a bracket begins
    have opens : ∀ (b : Bool) (c : Cnd.Cd) (o : Prg.Op) (p : Prg.Pr) (H3 : Hp) (t : Addr) (y : V) (n' : Nat) (v5 v6 : Option V) (K0 : L2.St → Hp → Prop), Same H2 H3 → H3 t = some (.tup [.str (askS b), y]) → (∀ H4, H4 t = some (.tup [.str (askS b), y]) → CdH H4 c y → HeadH H4 (some o) (.ref t) []) → CdH H3 c y →
        (∀ H5, StkAt H H5 C FL ((o, d) :: fs) .nil → K0 [some (tx gs), some (tx xs), some (.ref FL), some (iv n'), some (.ref t), v5, v6] H5) →
        tBM K "list" rAppend (tVar 2) (tCons (tMake C (spBgI C) [] E0 (tCons (tVar 4) tNil)) tNil) [some (tx gs), some (tx xs), some (.ref FL), some (iv n'), some (.ref t), v5, v6] H3
          (fun _ H' => K0 [some (tx gs), some (tx xs), some (.ref FL), some (iv n'), some (.ref t), v5, v6] H') := by
      intro b c o p H3 t y n' v5 v6 K0 s3 ht hh hy hk
      have hS3 := hS.same s3
      obtain ⟨as3, os3, hF3, _⟩ := id hS3
      refine ⟨_, rfl, .inl ⟨rfl, _, sqL hF3⟩, _, rfl, fun x dx nx ndx ne => ⟨x, dx, .ref t, rfl, upd_same, fun H5 cl g k1 ncl ng x1 x2 x3 e1 e2 e3 => ⟨rfl, ?_⟩⟩⟩
      have s5 : Same H3 H5 := mk_new nx ndx k1
      obtain ⟨ws, hws, hwl, hS5⟩ := hS3.push s5 nx (mk_none ncl).1 (mk_none ng).1 x1 x2 x3 e1 e2 e3 (hh H5 (s5 _ _ ht) (hy.same s5))
      exact ⟨FL, ws, .ref x, rfl, rfl, hws, s100 _ (by omega), hk _ hS5⟩
    cases r with
    | nil => cases hr
    | leaf l r =>
      rw [Prg.bef_leaf] at hd
      obtain ⟨hlk, hrk⟩ := hok2
      have hxl : xs.length = n + ((Prg.lTx l).length + (Prg.rest r (Prg.ops fs)).length) := by
        have := congrArg List.length hd
        rw [List.length_drop, List.length_append] at this
        omega
      refine ⟨_, rfl, _, rfl, _, rfl, gs, xs, n, rfl, hg, hn, hl, .inl ⟨l, _, hd, fun H3 p s3 np hp3 => ?_⟩⟩
      refine ⟨p, _, rfl, sqT hp3, rfl, _, _, rfl, _, _, rfl, rfl, ?_⟩
      try dsimp only [gName, tSeq, tAsg, List.set_cons_zero, List.set_cons_succ]
      refine ⟨_, rfl, rfl, _, rfl, ?_⟩
      refine iteT ?_
      refine ⟨_, rfl, _, rfl, _, rfl, gs, xs, _, n, l, rfl, hg, hd, hn, hl, hlk, endz _ _, fun H4 p2 v s4 np2 hp2 hv => ?_⟩
      refine ⟨p2, _, rfl, sqT hp2, rfl, _, _, rfl, _, _, rfl, rfl, ?_⟩
      try dsimp only [gName, tSeq, tAsg, List.set_cons_zero, List.set_cons_succ]
      have hS4 := (hS.same s3).same s4
      obtain ⟨as2, a, cl2, g2, dx2, hv2, vs, hF, hla, ha, hg2, hq, g0, hpush⟩ := hS4.top
      have hmany := sq_many hq
      refine ⟨_, rfl, 1, rfl, FL, _, -1, _, rfl, rfl, sqL hF, atI_last _ _, a, C, dx2, _, _, rfl, ha, T_.cls, T_.ng, rfl, .inl ⟨rfl, _, sqL hg2⟩, _, rfl, g2, vs, v, rfl, rfl, hg2, s100 _ (by omega), ?_⟩
      have hS5 := hpush v (.leaf l .nil) ⟨v, [], rfl, hv, rfl⟩
      try dsimp only [gName, tSeq, tAsg, List.set_cons_zero, List.set_cons_succ]
      have e4 := Prg.lTx_len l
      refine ⟨_, rfl, _, rfl, _, rfl, H, FL, gs, xs, n + (Prg.lTx l).length, _, r, p0, fs, rfl, hS5, by rw [← List.drop_drop, hd, List.drop_left], by omega, hl, Prg.some_cat rfl _, by rw [Prg.cat_assoc]; exact hp, hsz0, hrk, hf, fun H6 hS6 => ?_, fun H6 n' d' r' fs' hS6 hd6 hlt hle hr6 hp6 hok6 hf6 => ?_⟩
      · exact ⟨0, Nat.succ_pos _, _, _, _, _, rfl, .inl ⟨rfl, hS6, rfl⟩⟩
      · exact ⟨xs.length - n' + 1, by omega, _, _, _, _, rfl, .inr ⟨n', d', r', fs', rfl, hS6, hd6, hle, hr6, hp6, hok6, hf6, rfl⟩⟩
    | whil c p r =>
      rw [Prg.bef_whil] at hd
      obtain ⟨hck, hdk, hsp, hpk, hrk⟩ := hok2
      have hxl : xs.length - n = Prg.whilT.length + ((Cnd.cTx c).length + ((Prg.bef p (.whil c r :: Prg.ops fs)).length + 2)) := by
        rw [← List.length_drop, hd, List.length_append, List.length_append]; rfl
      refine ⟨_, rfl, _, rfl, _, rfl, gs, xs, n, rfl, hg, hn, hl, .inr ⟨false, c, _, hd, hck, hdk, fun H3 p3 t y s3 np hp3 ht hy => ?_⟩⟩
      refine ⟨p3, _, rfl, sqT hp3, rfl, _, _, rfl, _, _, rfl, rfl, ?_⟩
      try dsimp only [gName, tSeq, tAsg, List.set_cons_zero, List.set_cons_succ]
      refine ⟨_, rfl, rfl, _, rfl, ?_⟩
      refine iteF ?_
      refine opens false c (.whil c r) p H3 t y (n + ((askT false).length + ((Cnd.cTx c).length + 2))) v5 v6 _ s3 ht (fun H4 h1 h2 => ⟨t, y, rfl, h1, h2, rfl⟩) hy fun H5 hS5 => ?_
      have el : (askT false).length = 6 := rfl
      have ew : Prg.whilT.length = 6 := rfl
      refine ⟨xs.length - (n + ((askT false).length + ((Cnd.cTx c).length + 2))) + 1, by omega, _, _, _, _, rfl, .inr ⟨_, .nil, p, (.whil c r, d) :: fs, rfl, hS5, ?_, by omega, hsp, hp, hpk, fun f h => ?_, rfl⟩⟩
      · rw [← List.drop_drop, hd]
        show (Prg.whilT ++ (Cnd.cTx c ++ (32 :: 91 :: Prg.bef p (.whil c r :: Prg.ops fs)))).drop (Prg.whilT.length + ((Cnd.cTx c).length + 2)) = _
        rw [← List.drop_drop, List.drop_left, ← List.drop_drop, List.drop_left]
        rfl
      · rcases List.mem_cons.mp h with rfl | h
        · exact hrk
        · exact hf f h
    | cond c p q' r =>
      rw [Prg.bef_cond] at hd
      obtain ⟨hck, hdk, hsp, hsq, hpk, hqk, hrk⟩ := hok2
      have hxl : xs.length - n = Prg.ifT.length + ((Cnd.cTx c).length + ((Prg.bef p (.fst c q' r :: Prg.ops fs)).length + 2)) := by
        rw [← List.length_drop, hd, List.length_append, List.length_append]; rfl
      refine ⟨_, rfl, _, rfl, _, rfl, gs, xs, n, rfl, hg, hn, hl, .inr ⟨true, c, _, hd, hck, hdk, fun H3 p3 t y s3 np hp3 ht hy => ?_⟩⟩
      refine ⟨p3, _, rfl, sqT hp3, rfl, _, _, rfl, _, _, rfl, rfl, ?_⟩
      try dsimp only [gName, tSeq, tAsg, List.set_cons_zero, List.set_cons_succ]
      refine ⟨_, rfl, rfl, _, rfl, ?_⟩
      refine iteF ?_
      refine opens true c (.fst c q' r) p H3 t y (n + ((askT true).length + ((Cnd.cTx c).length + 2))) v5 v6 _ s3 ht (fun H4 h1 h2 => ⟨t, y, rfl, h1, h2, rfl⟩) hy fun H5 hS5 => ?_
      have el : (askT true).length = 3 := rfl
      have ew : Prg.ifT.length = 3 := rfl
      refine ⟨xs.length - (n + ((askT true).length + ((Cnd.cTx c).length + 2))) + 1, by omega, _, _, _, _, rfl, .inr ⟨_, .nil, p, (.fst c q' r, d) :: fs, rfl, hS5, ?_, by omega, hsp, hp, hpk, fun f h => ?_, rfl⟩⟩
      · rw [← List.drop_drop, hd]
        show (Prg.ifT ++ (Cnd.cTx c ++ (32 :: 91 :: Prg.bef p (.fst c q' r :: Prg.ops fs)))).drop (Prg.ifT.length + ((Cnd.cTx c).length + 2)) = _
        rw [← List.drop_drop, List.drop_left, ← List.drop_drop, List.drop_left]
        rfl
      · rcases List.mem_cons.mp h with rfl | h
        · exact ⟨hsq, hqk, hrk⟩
        · exact hf f h
end
end Own

namespace Own
open PySem PySem.Spec PyProof.Rows L2 SX RZ
section
variable {P : Program} {w : World} {K : PySem.W.Frag} {mg : Str → Option Value} {base : Heap}
open Prg in
/-- what a node of a program is -/
inductive NI where
  | leaf (l : Prg.Lf)
  | ask (b : Bool) (c : Cnd.Cd)
  | blk
def wrapN : List (List NI) → List NI
  | [x] => x
  | xs => .blk :: xs.flatten
/-- the nodes of each program of a sequence -/
def nodesS : Prg.Pr → List (List NI)
  | .nil => []
  | .leaf l r => [.leaf l] :: nodesS r
  | .whil c p r => (.ask false c :: wrapN (nodesS p)) :: nodesS r
  | .cond c p q r => (.ask true c :: (wrapN (nodesS p) ++ wrapN (nodesS q))) :: nodesS r
abbrev nodesP (p : Prg.Pr) : List NI := wrapN (nodesS p)
def NodeI (H : Hp) : NI → V → Prop
  | .leaf l, v => LfH H l v
  | .ask b c, v => ∃ a x ys, v = .ref a ∧ H a = some (.tup (.str (askS b) :: x :: ys)) ∧ CdH H c x
  | .blk, v => ∃ a ys, v = .ref a ∧ H a = some (.tup (.str (Str.ofString "block") :: ys))
theorem NodeI.keep {H H' : Hp} (k : ∀ a xs, H a = some (.tup xs) → H' a = some (.tup xs)) : ∀ {i : NI} {v : V}, NodeI H i v → NodeI H' i v
  | .leaf l, _, h => LfH.keep k h
  | .ask b c, _, ⟨a, x, ys, e, h, hc⟩ => ⟨a, x, ys, e, k _ _ h, hc.keep k⟩
  | .blk, _, ⟨a, ys, e, h⟩ => ⟨a, ys, e, k _ _ h⟩
def namesI : NI → List (List Nat)
  | .leaf (.call n) => [n]
  | .ask _ c => nms c
  | _ => []
def callsI : NI → List (List Nat)
  | .leaf (.call n) => [n]
  | _ => []
def askedI : NI → List (List Nat)
  | .ask _ c => nms c
  | _ => []
/-- how large the conditions of a program are -/
def CdSz (n : Nat) : Prg.Pr → Prop
  | .nil => True
  | .leaf _ r => CdSz n r
  | .whil c p r => Cnd.size c ≤ n ∧ CdSz n p ∧ CdSz n r
  | .cond c p q r => Cnd.size c ≤ n ∧ CdSz n p ∧ CdSz n q ∧ CdSz n r
def NiSz (n : Nat) : NI → Prop
  | .ask _ c => Cnd.size c ≤ n
  | _ => True
theorem niSz_wrap {n : Nat} {xs : List (List NI)} (h : ∀ x ∈ xs, ∀ i ∈ x, NiSz n i) : ∀ i ∈ wrapN xs, NiSz n i := by
  intro i hi
  match xs, h, hi with
  | [], _, hi => rcases List.mem_cons.mp hi with rfl | hi
                 · exact True.intro
                 · cases hi
  | [x], h, hi => exact h x (List.mem_singleton.mpr rfl) i hi
  | x :: y :: r, h, hi =>
    rcases List.mem_cons.mp hi with rfl | hi
    · exact True.intro
    · obtain ⟨z, hz, hi⟩ := List.mem_flatten.mp hi
      exact h z hz i hi
theorem niSz_all {n : Nat} : ∀ {p : Prg.Pr}, CdSz n p → ∀ x ∈ nodesS p, ∀ i ∈ x, NiSz n i
  | .nil, _, x, hx => nomatch hx
  | .leaf l r, h, x, hx => by
    rcases List.mem_cons.mp hx with rfl | hx
    · intro i hi; rw [List.mem_singleton.mp hi]; exact True.intro
    · exact niSz_all (p := r) h x hx
  | .whil c p r, ⟨h1, h2, h3⟩, x, hx => by
    rcases List.mem_cons.mp hx with rfl | hx
    · intro i hi
      rcases List.mem_cons.mp hi with rfl | hi
      · exact h1
      · exact niSz_wrap (niSz_all h2) i hi
    · exact niSz_all h3 x hx
  | .cond c p q r, ⟨h1, h2, h3, h4⟩, x, hx => by
    rcases List.mem_cons.mp hx with rfl | hx
    · intro i hi
      rcases List.mem_cons.mp hi with rfl | hi
      · exact h1
      · rcases List.mem_append.mp hi with hi | hi
        · exact niSz_wrap (niSz_all h2) i hi
        · exact niSz_wrap (niSz_all h3) i hi
    · exact niSz_all h4 x hx
theorem wrap_many {xs : List (List NI)} : (wrapN xs).length ≤ xs.flatten.length + 1 := by
  match xs with
  | [] => exact Nat.le_refl _
  | [x] => show x.length ≤ _; rw [List.flatten_cons, List.length_append]; omega
  | x :: y :: r => exact Nat.le_refl _
theorem nodes_many : ∀ p : Prg.Pr, (nodesS p).flatten.length ≤ 3 * Prg.size p
  | .nil => Nat.le_refl _
  | .leaf l r => by
    have := nodes_many r
    show ([NI.leaf l] ++ (nodesS r).flatten).length ≤ 3 * (Prg.size r + 1)
    rw [List.length_append]; show 1 + _ ≤ _; omega
  | .whil c p r => by
    have h1 := nodes_many p
    have h2 := nodes_many r
    have h3 := wrap_many (xs := nodesS p)
    show ((NI.ask false c :: wrapN (nodesS p)) ++ (nodesS r).flatten).length ≤ 3 * (Prg.size p + Prg.size r + 1)
    rw [List.length_append, List.length_cons]; omega
  | .cond c p q r => by
    have h1 := nodes_many p
    have h2 := nodes_many r
    have h3 := wrap_many (xs := nodesS p)
    have h4 := nodes_many q
    have h5 := wrap_many (xs := nodesS q)
    show ((NI.ask true c :: (wrapN (nodesS p) ++ wrapN (nodesS q))) ++ (nodesS r).flatten).length ≤ 3 * (Prg.size p + Prg.size q + Prg.size r + 1)
    rw [List.length_append, List.length_cons, List.length_append]; omega
theorem blk_nodI {H : Hp} {ys : List V} {y : V} {outs : List (List V)} {is : List (List NI)} (hb : Blk H ys y) (h1 : Paired (Nod H) ys outs) (h2 : Paired (fun i o => Paired (NodeI H) i o) is outs) (hl : ys.length ≤ 900) : ∃ out, Nod H y out ∧ Paired (NodeI H) (wrapN is) out := by
  rcases hb with rfl | ⟨h2l, a, rfl, ha⟩
  · cases h1 with
    | cons e t =>
      cases t
      cases h2 with
      | cons f u =>
        cases u
        exact ⟨_, e, f⟩
  · have fl : ∀ {is : List (List NI)} {outs : List (List V)}, Paired (fun i o => Paired (NodeI H) i o) is outs → Paired (NodeI H) is.flatten outs.flatten := by
      intro is
      induction is with
      | nil => intro outs h; cases h; exact .nil
      | cons i is ih => intro outs h; cases h with | cons a b => exact paired_appN a (ih b)
    refine ⟨_, .mk ⟨a, _, ys, rfl, ha, by omega, .inl ⟨rfl, rfl⟩⟩ h1, ?_⟩
    have e1 := Paired.length h1
    have e2 := Paired.length h2
    match is, h2, e2 with
    | [], _, e2 => simp at e2; omega
    | [x], _, e2 => simp at e2; omega
    | x :: y :: r, h2, _ => exact .cons ⟨a, _, rfl, ha⟩ (fl h2)
theorem seq_nodI {H : Hp} : ∀ {p : Prg.Pr} {vs : List V}, SqH H p vs → Prg.size p ≤ 900 → ∃ outs, Paired (Nod H) vs outs ∧ Paired (fun i o => Paired (NodeI H) i o) (nodesS p) outs
  | .nil, _, h, _ => by cases h; exact ⟨[], .nil, .nil⟩
  | .leaf l r, _, ⟨v, ws, e, h, hr⟩, hs => by
    subst e
    have hs : Prg.size r + 1 ≤ 900 := hs
    obtain ⟨outs, h1, h2⟩ := seq_nodI hr (by omega)
    have hv : PrtH H v [] := by
      cases l with
      | skip => obtain ⟨a, e, h⟩ := h; exact ⟨a, _, _, e, h, by decide, .inr (.inr ⟨.inl rfl, rfl⟩)⟩
      | fill _ _ => obtain ⟨a, e, h⟩ := h; exact ⟨a, _, _, e, h, by show 1 ≤ 1000; decide, .inr (.inr ⟨.inr (.inl rfl), rfl⟩)⟩
      | fail _ => obtain ⟨a, e, h⟩ := h; exact ⟨a, _, _, e, h, by show 1 ≤ 1000; decide, .inr (.inr ⟨.inr (.inr (.inl rfl)), rfl⟩)⟩
      | call _ => obtain ⟨a, e, h⟩ := h; exact ⟨a, _, _, e, h, by show 1 ≤ 1000; decide, .inr (.inr ⟨.inr (.inr (.inr rfl)), rfl⟩)⟩
    exact ⟨[v] :: outs, .cons (.mk hv .nil) h1, .cons (.cons h .nil) h2⟩
  | .whil c p r, _, ⟨a, x, y, ys, ws, e, ha, hc, hp, hb, hr⟩, hs => by
    subst e
    have hs : Prg.size p + Prg.size r + 1 ≤ 900 := hs
    obtain ⟨outs, h1, h2⟩ := seq_nodI hr (by omega)
    obtain ⟨os, k1, k2⟩ := seq_nodI hp (by omega)
    obtain ⟨o1, g1, g2⟩ := blk_nodI hb k1 k2 (by have := sq_many hp; omega)
    refine ⟨(.ref a :: [o1].flatten) :: outs, .cons (.mk (ps := [y]) ⟨a, _, _, rfl, ha, by show 2 ≤ 1000; decide, .inr (.inl ⟨.inr rfl, x, rfl⟩)⟩ (.cons g1 .nil)) h1, .cons ?_ h2⟩
    rw [List.flatten_cons, List.flatten_nil, List.append_nil]
    exact .cons ⟨a, _, _, rfl, ha, hc⟩ g2
  | .cond c p q r, _, ⟨a, x, y, z, ys, zs, ws, e, ha, hc, hp, hb, hq, hd, hr⟩, hs => by
    subst e
    have hs : Prg.size p + Prg.size q + Prg.size r + 1 ≤ 900 := hs
    obtain ⟨outs, h1, h2⟩ := seq_nodI hr (by omega)
    obtain ⟨os, k1, k2⟩ := seq_nodI hp (by omega)
    obtain ⟨os2, m1, m2⟩ := seq_nodI hq (by omega)
    obtain ⟨o1, g1, g2⟩ := blk_nodI hb k1 k2 (by have := sq_many hp; omega)
    obtain ⟨o2, f1, f2⟩ := blk_nodI hd m1 m2 (by have := sq_many hq; omega)
    refine ⟨(.ref a :: [o1, o2].flatten) :: outs, .cons (.mk (ps := [y, z]) ⟨a, _, _, rfl, ha, by show 3 ≤ 1000; decide, .inr (.inl ⟨.inl rfl, x, rfl⟩)⟩ (.cons g1 (.cons f1 .nil))) h1, .cons ?_ h2⟩
    rw [List.flatten_cons, List.flatten_cons, List.flatten_nil, List.append_nil]
    exact .cons ⟨a, _, _, rfl, ha, hc⟩ (paired_appN g2 f2)
/-- the nodes of a program as it lies -/
theorem pg_nodI {H : Hp} {p : Prg.Pr} {v : V} (h : PgH H p v) (hs : Prg.size p ≤ 900) : ∃ out, Nod H v out ∧ Paired (NodeI H) (nodesP p) out ∧ out.length ≤ 3 * Prg.size p + 1 := by
  obtain ⟨vs, hv, hb⟩ := h
  obtain ⟨outs, h1, h2⟩ := seq_nodI hv hs
  obtain ⟨out, g1, g2⟩ := blk_nodI hb h1 h2 (by have := sq_many hv; omega)
  refine ⟨out, g1, g2, ?_⟩
  have e := Paired.length g2
  have h3 := wrap_many (xs := nodesS p)
  have h4 := nodes_many p
  rw [← e]
  show (wrapN (nodesS p)).length ≤ _
  omega
theorem nodeN_of {H : Hp} {i : NI} {v : V} (h : NodeI H i v) (hs : NiSz 100000 i) : NodeN H v (namesI i) := by
  cases i with
  | leaf l =>
    cases l with
    | skip => obtain ⟨a, e, h⟩ := h; exact ⟨a, _, _, e, h, .inr (.inr ⟨.inl rfl, rfl⟩)⟩
    | fill _ _ => obtain ⟨a, e, h⟩ := h; exact ⟨a, _, _, e, h, .inr (.inr ⟨.inr (.inl rfl), rfl⟩)⟩
    | fail _ => obtain ⟨a, e, h⟩ := h; exact ⟨a, _, _, e, h, .inr (.inr ⟨.inr (.inr (.inl rfl)), rfl⟩)⟩
    | call n => obtain ⟨a, e, h⟩ := h; exact ⟨a, _, _, e, h, .inl ⟨rfl, n, rfl, rfl⟩⟩
  | ask b c =>
    obtain ⟨a, x, ys, e, h, hc⟩ := h
    exact ⟨a, _, _, e, h, .inr (.inl ⟨by cases b; exact .inr rfl; exact .inl rfl, c, x, ys, rfl, hc, hs, rfl⟩)⟩
  | blk =>
    obtain ⟨a, ys, e, h⟩ := h
    exact ⟨a, _, _, e, h, .inr (.inr ⟨.inr (.inr (.inr rfl)), rfl⟩)⟩
end
end Own

namespace Own
open PySem PySem.Spec PyProof.Rows L2 SX RZ
section
variable {P : Program} {w : World} {K : PySem.W.Frag} {mg : Str → Option Value} {base : Heap}
/-- what a name of a book stands for -/
inductive Mng where
  | cd (c : Cnd.Cd)
  | pg (p : Prg.Pr)
def Mng.kind : Mng → Str
  | .cd _ => Str.ofString "condition"
  | .pg _ => Str.ofString "program"
theorem kd_pc : ¬ V.str (Str.ofString "program") = V.str (Str.ofString "condition") := by decide +kernel
def MnH (H : Hp) : Mng → V → Prop
  | .cd c, v => CdH H c v
  | .pg p, v => PgH H p v
theorem MnH.keep {H H' : Hp} (k : ∀ a xs, H a = some (.tup xs) → H' a = some (.tup xs)) : ∀ {e : Mng} {v : V}, MnH H e v → MnH H' e v
  | .cd c, _, h => CdH.keep k h
  | .pg p, _, h => PgH.keep k h
/-- how large it may be -/
def MngSz : Mng → Prop
  | .cd c => Cnd.size c ≤ 300 ∧ (nms c).length ≤ 300
  | .pg p => Prg.size p ≤ 300 ∧ CdSz 300 p ∧ ∀ i ∈ nodesP p, (namesI i).length ≤ 100
def mngNames : Mng → List (List Nat)
  | .cd c => nms c
  | .pg p => ((nodesP p).flatMap namesI).foldl addN []
def mngCalls : Mng → List (List Nat)
  | .cd _ => []
  | .pg p => (nodesP p).flatMap callsI
def mngAsked : Mng → List (List Nat)
  | .cd c => nms c
  | .pg p => (nodesP p).flatMap askedI
theorem flat_le {α : Type} {f : NI → List α} {n : Nat} : ∀ {l : List NI}, (∀ i ∈ l, (f i).length ≤ n) → (l.flatMap f).length ≤ n * l.length
  | [], _ => Nat.zero_le _
  | x :: r, h => by
    have h1 := h x (List.mem_cons_self ..)
    have h2 := flat_le (l := r) fun i hi => h i (.tail _ hi)
    rw [List.flatMap_cons, List.length_append, List.length_cons, Nat.mul_succ]; omega
theorem paired_ni {H : Hp} {F : NI → V → Prop} : ∀ {is : List NI} {out : List V}, Paired (NodeI H) is out → (∀ i v, i ∈ is → NodeI H i v → F i v) → Paired F is out
  | _, _, .nil, _ => .nil
  | _, _, .cons h t, k => .cons (k _ _ (List.mem_cons_self ..) h) (paired_ni t fun i v hi => k i v (.tail _ hi))
theorem paired_map {α β γ : Type} {F : γ → β → Prop} {f : α → γ} : ∀ {is : List α} {out : List β}, Paired (fun i v => F (f i) v) is out → Paired F (is.map f) out
  | _, _, .nil => .nil
  | _, _, .cons h t => .cons h (paired_map t)
theorem pair_at {α β : Type} {F : α → β → Prop} : ∀ {l : List α} {m : List β} {i : Nat} {y : β}, Paired F l m → m[i]? = some y → ∃ x, l[i]? = some x ∧ F x y
  | _, _, _, _, .nil, e => by simp at e
  | _, _, 0, _, .cons r _, e => by simp at e; subst e; exact ⟨_, rfl, r⟩
  | _, _, i + 1, y, .cons _ t, e => by
    obtain ⟨u, h1, h2⟩ := pair_at (i := i) (y := y) t (by simpa using e)
    exact ⟨u, by simpa using h1, h2⟩
theorem paired_sw {α β : Type} {F : α → β → Prop} : ∀ {l : List α} {m : List β}, Paired F l m → Paired (fun b a => F a b) m l
  | _, _, .nil => .nil
  | _, _, .cons h t => .cons h (paired_sw t)
def spNus : Sp := fun vs H Q _ => ∃ (e : Mng) (m : V), vs = [.str e.kind, m] ∧ MnH H e m ∧ MngSz e ∧ ∀ H' p, Same H H' → H p = none → H' p = some (.lst ((mngNames e).map tx)) → Q (.ref p) H'
abbrev sNus : Stmt := topS 96
abbrev nusN : List Str := ["kind", "meant"]
theorem scNus : FnScope nusN ["kind", "meant"] (defScope sNus) := ⟨rfl, rfl, rfl, by decide +kernel, rfl, by decide +kernel, by decide +kernel⟩
theorem ok_nus {f : Addr} {fd : FuncData} (F : Fun K "names_used" "names_used" sNus f fd) {f1 : Addr} {fd1 : FuncData} (c1 : Cl P w K mg base "condition_names" 1 ["condition"] spNms f1 fd1) {f2 : Addr} {fd2 : FuncData} (c2 : Cl P w K mg base "program_names" 6 ["program"] spPnm f2 fd2) :
    FnOk P w K mg base CX0 7 f fd ["kind", "meant"] spNus := by
  refine F.ok scNus (fun vs H Q E h => ?_) (fun cdv A outer s H vs Q E hr h => ?_)
  · obtain ⟨e, m, rfl, _⟩ := h
    rfl
  · obtain ⟨e, m, rfl, hm, hz, q⟩ := h
    refine ⟨_, (pss_one (ps_ret (pe_ifExp (pt_cmpR op_eq (pv 0) pe_str (nomark _)) (pe_cl c1 hr (by decide) (by rfl) (pa_cons (pv 1) pa_nil)) (pe_cl c2 hr (by decide) (by rfl) (pa_cons (pv 1) pa_nil))))), ?_⟩
    refine ⟨_, rfl, rfl, _, rfl, ?_⟩
    cases e with
    | cd c =>
      rw [show decide (V.str (Mng.kind (.cd c)) = V.str (Str.ofString "condition")) = true from decide_eq_true rfl]
      refine iteT ?_
      exact ⟨_, rfl, c, m, rfl, hm, by have := hz.1; omega, fun H' p s np hp => q H' p s np hp⟩
    | pg p =>
      rw [show decide (V.str (Mng.kind (.pg p)) = V.str (Str.ofString "condition")) = false from decide_eq_false kd_pc]
      refine iteF ?_
      obtain ⟨h1, h2, h3⟩ := hz
      obtain ⟨out, n1, n2, n3⟩ := pg_nodI hm (by omega)
      have n4 := Paired.length n2
      refine ⟨_, rfl, m, out, (nodesP p).map namesI, rfl, n1, by omega, ?_, ?_, fun H' a s np hp => ?_⟩
      · exact paired_sw (paired_map (paired_ni n2 fun i v hi hv => nodeN_of hv (by
          have := niSz_wrap (niSz_all h2) i hi
          cases i with
          | ask b c => exact Nat.le_trans this (by decide)
          | _ => exact True.intro)))
      · have := flat_le h3
        rw [List.flatMap] at this
        omega
      · exact q H' a s np hp
end
end Own

namespace Own
open PySem PySem.Spec PyProof.Rows L2 SX RZ
section
variable {P : Program} {w : World} {K : PySem.W.Frag} {mg : Str → Option Value} {base : Heap}
def spNcl : Sp := fun vs H Q _ => ∃ (e : Mng) (m : V), vs = [.str e.kind, m] ∧ MnH H e m ∧ MngSz e ∧ ∀ H' p, Same H H' → H p = none → H' p = some (.lst ((mngCalls e).map tx)) → Q (.ref p) H'
abbrev sNcl : Stmt := topS 97
abbrev nclN : List Str := ["kind", "meant", "node"]
theorem scNcl : FnScope nclN ["kind", "meant"] (defScope sNcl) := ⟨rfl, rfl, rfl, by decide +kernel, rfl, by decide +kernel, by decide +kernel⟩
theorem ok_ncl {f : Addr} {fd : FuncData} (F : Fun K "names_called" "names_called" sNcl f fd) {fN : Addr} {fdN : FuncData} (GN : GFn2 P w K mg base 2 fN fdN ["program"] ["waiting"] spNd) (gN : mg "nodes_of" = some (.ref fN)) (kN : PySem.W.keepIn K (.ref fN) = true) (bN : Binds K fdN ["program"] []) :
    FnOk P w K mg base CX0 6 f fd ["kind", "meant"] spNcl := by
  refine F.ok scNcl (fun vs H Q E h => ?_) (fun cdv A outer s H vs Q E hr h => ?_)
  · obtain ⟨e, m, rfl, _⟩ := h
    rfl
  · obtain ⟨e, m, rfl, hm, hz, q⟩ := h
    refine ⟨_, (pss_cons (ps_if (pt_cmpR op_eq (pv 0) pe_str (nomark _)) (pss_one (ps_ret (pe_lst pa_nil))) pss_nil)
      (pss_one (ps_ret (pe_lcG2 (own := [("node", 2)]) (gt := gName 2) (GF.never fun _ _ h => h) rfl scNcl.nd (pgn2_call GN (hr.mono (by decide)) (by rfl) gN kN bN (pa_cons (pv 1) pa_nil)) (hr.mono (by decide)) (blkOk_by (N := nclN) (sc := defScope sNcl) (by decide +kernel)) (by decide +kernel) (fun _ _ _ _ _ => pg_name (i := 2) scNcl.nd rfl (Or.inl rfl)) (fun _ _ _ _ _ => pts_one (pt_cmpR op_eq (pe_ix (ixT (K := K) rfl) (pv 2) pe_int (fun _ _ => rfl)) pe_str (nomark _))) (fun _ _ _ _ _ => pe_ix (ixT (K := K) rfl) (pv 2) pe_int (fun _ _ => rfl)))))), ?_⟩
    refine ⟨_, rfl, rfl, _, rfl, ?_⟩
    cases e with
    | cd c =>
      rw [show decide (V.str (Mng.kind (.cd c)) = V.str (Str.ofString "condition")) = true from decide_eq_true rfl]
      refine iteT ?_
      exact ⟨Nat.zero_le _, fun p np => q _ p (same_new np) np upd_same⟩
    | pg p =>
      rw [show decide (V.str (Mng.kind (.pg p)) = V.str (Str.ofString "condition")) = false from decide_eq_false kd_pc]
      refine iteF ?_
      obtain ⟨h1, h2, h3⟩ := hz
      obtain ⟨out, n1, n2, n3⟩ := pg_nodI hm (by omega)
      have n4 := Paired.length n2
      have sz : ∀ k : Nat, k ≤ 100000 → k < sizeLine := fun k hk => by rw [sizeLine_eq]; omega
      refine ⟨_, rfl, out, ⟨m, rfl, n1.keep fun a xs e => tupsOf_get e, by omega⟩, fun D nD => ?_⟩
      refine ⟨fun i H' => Same H H' ∧ H' D = some (.lst ((((nodesP p).take i).flatMap callsI).map tx)), ⟨same_new nD, upd_same⟩, fun i H' h b xs e => h.1 _ _ e, ?_, ?_⟩
      · rintro i x H1 hx ⟨s1, hD⟩
        obtain ⟨ni, hni, hnv⟩ := pair_at n2 hx
        have hil := (List.getElem?_eq_some_iff.mp hni).1
        have hnv := hnv.keep (H' := H1) fun a xs e => s1 _ _ e
        have tk : ((nodesP p).take (i + 1)).flatMap callsI = ((nodesP p).take i).flatMap callsI ++ callsI ni := by
          rw [List.take_add_one, hni, List.flatMap_append]
          show _ ++ [ni].flatMap callsI = _
          rw [List.flatMap_cons, List.flatMap_nil, List.append_nil]
        have lacc : ((((nodesP p).take i).flatMap callsI).map tx).length ≤ 100000 := by
          have h5 : (((nodesP p).take i).flatMap callsI).length ≤ 1 * ((nodesP p).take i).length := flat_le fun z hz => by
            cases z with
            | leaf l => cases l <;> first | exact Nat.le_refl 1 | exact Nat.zero_le 1
            | ask b c => exact Nat.zero_le 1
            | blk => exact Nat.zero_le 1
          rw [List.length_map]
          rw [List.length_take] at h5
          omega
        have off : callsI ni = [] → (∃ a kd xs, x = V.ref a ∧ H1 a = some (.tup (.str kd :: xs)) ∧ V.str kd ≠ V.str (Str.ofString "call")) →
            (gName 2 x (wipe (L2.start nclN [V.str (Mng.kind (.pg p)), m]) (List.map (fun x => x.snd) [(Str.ofString "node", 2)])) H1 fun σ2 H2 =>
              wipe σ2 (List.map (fun x => x.snd) [(Str.ofString "node", 2)]) = wipe (L2.start nclN [V.str (Mng.kind (.pg p)), m]) (List.map (fun x => x.snd) [(Str.ofString "node", 2)]) ∧
              tTest (tOp rEq (tOp (rIxT K) (tVar 2) (tC (V.int 0))) (tC (V.str (Str.ofString "call")))) σ2 H2 fun b H3 =>
                if b = true then tOp (rIxT K) (tVar 2) (tC (V.int 1)) σ2 H3 fun y H4 => ∃ acc, H4 D = some (.lst acc) ∧ acc.length < sizeLine ∧ ∀ Hd, Drp H (upd H4 D (.lst (acc ++ [y]))) Hd → Same H Hd ∧ Hd D = some (.lst ((((nodesP p).take (i + 1)).flatMap callsI).map tx))
                else ∀ Hd, Drp H H3 Hd → Same H Hd ∧ Hd D = some (.lst ((((nodesP p).take (i + 1)).flatMap callsI).map tx))) := by
          rintro e0 ⟨a, kd, xs, rfl, ha, hk⟩
          refine ⟨rfl, _, rfl, a, _, 0, _, rfl, rfl, sqT ha, atI_nat (j := 0) rfl, rfl, _, rfl, ?_⟩
          rw [decide_eq_false hk]
          refine iteF fun Hd dr => ⟨fun b o e => dr.2 b o (s1 _ _ e) (.inl ⟨_, e⟩), ?_⟩
          rw [tk, e0, List.append_nil]
          exact dr.2 D _ hD (.inr True.intro)
        cases ni with
        | leaf l =>
          cases l with
          | call n =>
            obtain ⟨a, rfl, ha⟩ := hnv
            refine ⟨rfl, _, rfl, a, _, 0, _, rfl, rfl, sqT ha, atI_nat (j := 0) rfl, rfl, _, rfl, ?_⟩
            rw [decide_eq_true rfl]
            refine iteT ⟨_, rfl, a, _, 1, _, rfl, rfl, sqT ha, atI_nat (j := 1) rfl, _, hD, sz _ lacc, fun Hd dr => ⟨fun b o e => dr.2 b o ?_ (.inl ⟨_, e⟩), ?_⟩⟩
            · rw [upd_ne (ne_of_none e nD)]
              exact s1 _ _ e
            · rw [dr.2 D _ upd_same (.inr True.intro), tk, List.map_append]
              rfl
          | skip => obtain ⟨a, e, h⟩ := hnv; exact off rfl ⟨a, _, _, e, h, by decide +kernel⟩
          | fill _ _ => obtain ⟨a, e, h⟩ := hnv; exact off rfl ⟨a, _, _, e, h, by decide +kernel⟩
          | fail _ => obtain ⟨a, e, h⟩ := hnv; exact off rfl ⟨a, _, _, e, h, by decide +kernel⟩
        | ask b c => obtain ⟨a, x, ys, e, h, _⟩ := hnv; exact off rfl ⟨a, _, _, e, h, by cases b <;> decide +kernel⟩
        | blk => obtain ⟨a, ys, e, h⟩ := hnv; exact off rfl ⟨a, _, _, e, h, by decide +kernel⟩
      · rintro H1 ⟨s1, hD⟩
        rw [← n4, List.take_length] at hD
        exact q _ D s1 nD hD
end
end Own

namespace Own
open PySem PySem.Spec PyProof.Rows L2 SX RZ
section
variable {P : Program} {w : World} {K : PySem.W.Frag} {mg : Str → Option Value} {base : Heap}
def spNas : Sp := fun vs H Q _ => ∃ (e : Mng) (m : V), vs = [.str e.kind, m] ∧ MnH H e m ∧ MngSz e ∧ ∀ H' p, Same H H' → H p = none → H' p = some (.lst ((mngAsked e).map tx)) → Q (.ref p) H'
abbrev sNas : Stmt := topS 98
abbrev nasN : List Str := ["kind", "meant", "names", "node"]
theorem scNas : FnScope nasN ["kind", "meant"] (defScope sNas) := ⟨rfl, rfl, rfl, by decide +kernel, rfl, by decide +kernel, by decide +kernel⟩
theorem ok_nas {f : Addr} {fd : FuncData} (F : Fun K "names_asked" "names_asked" sNas f fd) {f1 : Addr} {fd1 : FuncData} (c1 : Cl P w K mg base "condition_names" 1 ["condition"] spNms f1 fd1) {fN : Addr} {fdN : FuncData} (GN : GFn2 P w K mg base 2 fN fdN ["program"] ["waiting"] spNd) (gN : mg "nodes_of" = some (.ref fN)) (kN : PySem.W.keepIn K (.ref fN) = true) (bN : Binds K fdN ["program"] []) {AK : Addr} (gA : mg "ASKING_KINDS" = some (.ref AK)) (uA : ∀ H, SqT K H AK [.str (Str.ofString "if"), .str (Str.ofString "while")]) :
    FnOk P w K mg base CX0 6 f fd ["kind", "meant"] spNas := by
  refine F.ok scNas (fun vs H Q E h => ?_) (fun cdv A outer s H vs Q E hr h => ?_)
  · obtain ⟨e, m, rfl, _⟩ := h
    rfl
  · obtain ⟨e, m, rfl, hm, hz, q⟩ := h
    refine ⟨_, (pss_cons (ps_if (pt_cmpR op_eq (pv 0) pe_str (nomark _)) (pss_one (ps_ret (pe_cl c1 hr (by decide) (by rfl) (pa_cons (pv 1) pa_nil)))) pss_nil)
      (pss_cons (ps_set (i := 2) scNas.nd rfl (by first | exact .inl rfl | exact .inr rfl) (pe_lst pa_nil))
      (pss_cons (ps_forG PassesOwn.never (GF.never fun _ _ h => h) rfl (pgn2_call GN (hr.mono (by decide)) (by rfl) gN kN bN (pa_cons (pv 1) pa_nil)) (hr.mono (by decide)) (pg_name (i := 3) scNas.nd rfl (by first | exact .inl rfl | exact .inr rfl))
        (pss_one (ps_if (pt_cmpR op_in_seq (pe_ix (ixT (K := K) rfl) (pv 3) pe_int (fun _ _ => rfl)) (pe_glob (v := .ref AK) (by rfl) gA rfl) (by rfl)) (pss_one (ps_expr (pe_bm PySem.F.plainAttrs_list PySem.F.slot_list_extend PySem.F.type_list_extend mt_extend (pv 2) (pa_cons (pe_cl c1 hr (by decide) (by rfl) (pa_cons (pe_ix (ixT (K := K) rfl) (pv 3) pe_int (fun _ _ => rfl)) pa_nil)) pa_nil)))) pss_nil)))
      (pss_one (ps_ret (pv 2)))))), ?_⟩
    refine ⟨_, rfl, rfl, _, rfl, ?_⟩
    cases e with
    | cd c =>
      rw [show decide (V.str (Mng.kind (.cd c)) = V.str (Str.ofString "condition")) = true from decide_eq_true rfl]
      refine iteT ?_
      exact ⟨_, rfl, c, m, rfl, hm, by have := hz.1; omega, fun H' p s np hp => q H' p s np hp⟩
    | pg p =>
      rw [show decide (V.str (Mng.kind (.pg p)) = V.str (Str.ofString "condition")) = false from decide_eq_false kd_pc]
      refine iteF ?_
      obtain ⟨h1, h2, h3⟩ := hz
      obtain ⟨out, n1, n2, n3⟩ := pg_nodI hm (by omega)
      have n4 := Paired.length n2
      have sz : ∀ k : Nat, k ≤ 200000 → k < sizeLine := fun k hk => by rw [sizeLine_eq]; omega
      refine ⟨Nat.zero_le _, fun D nD => ?_⟩
      have sD := same_new (o := .lst []) nD
      have hD0 : upd H D (.lst []) D = some (.lst []) := upd_same
      generalize upd H D (.lst []) = HD at sD hD0 ⊢
      try dsimp only [gName, tSeq, tAsg, List.set_cons_zero, List.set_cons_succ]
      refine ⟨_, rfl, out, ⟨m, rfl, n1.keep fun a xs e => tupsOf_get (sD _ _ e), by omega⟩, fun i σ H' => ∃ x3, σ = [some (V.str (Mng.kind (.pg p))), some m, some (.ref D), x3] ∧ Same H H' ∧ KeepT HD H' ∧ H' D = some (.lst ((((nodesP p).take i).flatMap askedI).map tx)),
        ⟨none, rfl, sD, fun _ _ e => e, by rw [hD0]; rfl⟩, fun i σ H' h => (by obtain ⟨_, _, _, h, _⟩ := h; exact h), ?_, ?_⟩
      · rintro i x σ H1 hx ⟨x3, rfl, s1, k1, hD⟩
        try dsimp only [gName, tSeq, tAsg, List.set_cons_zero, List.set_cons_succ]
        obtain ⟨ni, hni, hnv⟩ := pair_at n2 hx
        have hnv := hnv.keep (H' := H1) fun a xs e => s1 _ _ e
        have tk : ((nodesP p).take (i + 1)).flatMap askedI = ((nodesP p).take i).flatMap askedI ++ askedI ni := by
          rw [List.take_add_one, hni, List.flatMap_append]
          show _ ++ [ni].flatMap askedI = _
          rw [List.flatMap_cons, List.flatMap_nil, List.append_nil]
        have lacc : ((((nodesP p).take i).flatMap askedI).map tx).length ≤ 100000 := by
          have h5 : (((nodesP p).take i).flatMap askedI).length ≤ 100 * ((nodesP p).take i).length := flat_le fun z hz => by
            have := h3 z (List.mem_of_mem_take hz)
            cases z with
            | leaf l => exact Nat.zero_le _
            | ask b c => exact this
            | blk => exact Nat.zero_le _
          rw [List.length_map]
          rw [List.length_take] at h5
          omega
        have fin : ∀ (H2 : Hp), Same H H2 → KeepT HD H2 → H2 D = some (.lst ((((nodesP p).take i).flatMap askedI ++ askedI ni).map tx)) → ∀ Hd, Drp HD H2 Hd → ∃ x3, [some (V.str (Mng.kind (.pg p))), some m, some (V.ref D), some x] = [some (V.str (Mng.kind (.pg p))), some m, some (.ref D), x3] ∧ Same H Hd ∧ KeepT HD Hd ∧ Hd D = some (.lst ((((nodesP p).take (i + 1)).flatMap askedI).map tx)) := fun H2 s2 k2 hD2 Hd dr => by
          refine ⟨_, rfl, fun b o e => dr.2 b o (s2 b o e) (.inl ⟨o, sD b o e⟩), fun b xs e => dr.2 b _ (k2 b xs e) (.inr trivial), ?_⟩
          rw [tk]
          exact dr.2 D _ hD2 (.inl ⟨_, hD0⟩)
        have two : (∃ a kd xs, x = V.ref a ∧ H1 a = some (.tup (.str kd :: xs)) ∧ inV (.str kd) [V.str (Str.ofString "if"), V.str (Str.ofString "while")] = false ∧ askedI ni = []) ∨
            ∃ a b c y ys, x = V.ref a ∧ H1 a = some (.tup (.str (askS b) :: y :: ys)) ∧ CdH H1 c y ∧ Cnd.size c ≤ 300 ∧ (nms c).length ≤ 100 ∧ askedI ni = nms c := by
          have hsz := niSz_wrap (niSz_all h2) ni (List.mem_of_getElem? hni)
          have hnm := h3 ni (List.mem_of_getElem? hni)
          cases ni with
          | leaf l =>
            cases l with
            | skip => obtain ⟨a, e, h⟩ := hnv; exact .inl ⟨a, _, _, e, h, by decide +kernel, rfl⟩
            | fill _ _ => obtain ⟨a, e, h⟩ := hnv; exact .inl ⟨a, _, _, e, h, by decide +kernel, rfl⟩
            | fail _ => obtain ⟨a, e, h⟩ := hnv; exact .inl ⟨a, _, _, e, h, by decide +kernel, rfl⟩
            | call _ => obtain ⟨a, e, h⟩ := hnv; exact .inl ⟨a, _, _, e, h, by decide +kernel, rfl⟩
          | ask b c => obtain ⟨a, y, ys, e, h, hc⟩ := hnv; exact .inr ⟨a, b, c, y, ys, e, h, hc, hsz, hnm, rfl⟩
          | blk => obtain ⟨a, ys, e, h⟩ := hnv; exact .inl ⟨a, _, _, e, h, by decide +kernel, rfl⟩
        rcases two with ⟨a, kd, xs, rfl, ha, hk, e0⟩ | ⟨a, b, c, y, ys, rfl, ha, hc, hcs, hcn, e0⟩
        · refine ⟨_, rfl, a, _, 0, _, rfl, rfl, sqT ha, atI_nat (j := 0) rfl, _, _, rfl, .inr (uA _), rfl, rfl, _, rfl, ?_⟩
          rw [show (if false = true then !inV (V.str kd) [V.str (Str.ofString "if"), V.str (Str.ofString "while")] else inV (V.str kd) [V.str (Str.ofString "if"), V.str (Str.ofString "while")]) = false from hk]
          exact iteF (fin H1 s1 k1 (by rw [e0, List.append_nil]; exact hD))
        · refine ⟨_, rfl, a, _, 0, _, rfl, rfl, sqT ha, atI_nat (j := 0) rfl, _, _, rfl, .inr (uA _), rfl, rfl, _, rfl, ?_⟩
          rw [show (if false = true then !inV (V.str (askS b)) [V.str (Str.ofString "if"), V.str (Str.ofString "while")] else inV (V.str (askS b)) [V.str (Str.ofString "if"), V.str (Str.ofString "while")]) = true by cases b <;> decide +kernel]
          refine iteT ?_
          refine ⟨_, rfl, .inl ⟨rfl, _, sqL hD⟩, _, rfl, a, _, 1, _, rfl, rfl, sqT ha, atI_nat (j := 1) rfl, c, y, rfl, hc, by omega, fun H2 l s2 np hl2 => ?_⟩
          have hD2 := s2 _ _ hD
          refine ⟨D, l, _, _, rfl, rfl, hD2, hl2, by rw [List.length_map]; have := sz 200000 (by decide); rw [List.length_map] at lacc ⊢; omega, ?_⟩
          exact fin _ (same_put (s1.trans s2) nD) (fun b xs e => by rw [upd_ne (fun z => by have h9 := s2 _ _ (k1 _ _ e); rw [z, hD2] at h9; cases h9)]; exact s2 _ _ (k1 _ _ e)) (by rw [upd_same, e0, List.map_append])
      · rintro σ H1 ⟨x3, rfl, s1, k1, hD⟩
        rw [← n4, List.take_length] at hD
        exact ⟨_, rfl, q _ D s1 nD hD⟩
end
end Own

namespace Own
open PySem PySem.Spec PyProof.Rows L2 SX RZ
section
variable {P : Program} {w : World} {K : PySem.W.Frag} {mg : Str → Option Value} {base : Heap}
/-! ### books as they lie -/
abbrev Es := List (List Nat × Mng)
def EntH (H : Hp) (e : Mng) (v : V) : Prop := ∃ t m, v = .ref t ∧ H t = some (.tup [.str e.kind, m]) ∧ MnH H e m
def EsR (H : Hp) (x : List Nat × Mng) (kv : L2.Key × V) : Prop := kv.1 = .inr (S x.1) ∧ EntH H x.2 kv.2
def EsH (H : Hp) (D : Addr) (es : Es) : Prop := ∃ kvs, H D = some (.dK kvs) ∧ Paired (EsR H) es kvs
def lookE (es : Es) (n : List Nat) : Option Mng := (es.find? fun x => decide (x.1 = n)).map (·.2)
def putE (es : Es) (n : List Nat) (e : Mng) : Es := if (es.any fun x => decide (x.1 = n)) = true then es.map fun x => if x.1 = n then (x.1, e) else x else es ++ [(n, e)]
theorem EntH.keep {H H' : Hp} (k : ∀ a xs, H a = some (.tup xs) → H' a = some (.tup xs)) {e : Mng} {v : V} (h : EntH H e v) : EntH H' e v := by
  obtain ⟨t, m, e1, h1, h2⟩ := h
  exact ⟨t, m, e1, k _ _ h1, h2.keep k⟩
theorem EsR.keep {H H' : Hp} (k : ∀ a xs, H a = some (.tup xs) → H' a = some (.tup xs)) {x : List Nat × Mng} {kv : L2.Key × V} (h : EsR H x kv) : EsR H' x kv := ⟨h.1, h.2.keep k⟩
theorem esR_keep {H H' : Hp} (k : ∀ a xs, H a = some (.tup xs) → H' a = some (.tup xs)) {es : Es} {kvs : List (L2.Key × V)} (h : Paired (EsR H) es kvs) : Paired (EsR H') es kvs := Paired.mapP h fun _ _ z => z.keep k
theorem EsH.same {H H' : Hp} {D : Addr} {es : Es} (h : EsH H D es) (s : Same H H') : EsH H' D es := by
  obtain ⟨kvs, h1, h2⟩ := h
  exact ⟨kvs, s _ _ h1, esR_keep (fun a xs e => s _ _ e) h2⟩
theorem kS_inj {a b : List Nat} (h : (Sum.inr (S a) : L2.Key) = Sum.inr (S b)) : a = b := S_inj (Sum.inr.inj h)
theorem kS_dec (a b : List Nat) : decide ((Sum.inr (S a) : L2.Key) = Sum.inr (S b)) = decide (a = b) := by
  by_cases h : a = b
  · rw [h, decide_eq_true rfl, decide_eq_true rfl]
  · rw [decide_eq_false h, decide_eq_false fun z => h (kS_inj z)]
theorem esR_look {H : Hp} : ∀ {es : Es} {kvs : List (L2.Key × V)}, Paired (EsR H) es kvs → ∀ n, (lookE es n = none ∧ valV kvs (Sum.inr (S n)) = none) ∨ ∃ e v, lookE es n = some e ∧ valV kvs (Sum.inr (S n)) = some v ∧ EntH H e v
  | _, _, .nil, n => .inl ⟨rfl, rfl⟩
  | (m, e) :: es, (k, v) :: kvs, .cons ⟨h1, h2⟩ t, n => by
    have h1 : k = Sum.inr (S m) := h1
    subst h1
    have ih := esR_look t n
    unfold lookE valV at ih ⊢
    rw [List.find?_cons, List.find?_cons]
    by_cases z : m = n
    · rw [show decide ((m, e).fst = n) = true from decide_eq_true z, show decide (((Sum.inr (S m) : L2.Key), v).fst = Sum.inr (S n)) = true from (kS_dec m n).trans (decide_eq_true z)]
      exact .inr ⟨e, v, rfl, rfl, h2⟩
    · rw [show decide ((m, e).fst = n) = false from decide_eq_false z, show decide (((Sum.inr (S m) : L2.Key), v).fst = Sum.inr (S n)) = false from (kS_dec m n).trans (decide_eq_false z)]
      exact ih
theorem esR_any {H : Hp} : ∀ {es : Es} {kvs : List (L2.Key × V)}, Paired (EsR H) es kvs → ∀ n, (kvs.any fun kv => decide (kv.1 = Sum.inr (S n))) = es.any fun x => decide (x.1 = n)
  | _, _, .nil, n => rfl
  | (m, e) :: es, (k, v) :: kvs, .cons ⟨h1, h2⟩ t, n => by
    have h1 : k = Sum.inr (S m) := h1
    subst h1
    rw [List.any_cons, List.any_cons, esR_any t n]
    show (decide ((Sum.inr (S m) : L2.Key) = Sum.inr (S n)) || _) = (decide (m = n) || _)
    rw [kS_dec]
theorem esR_put {H : Hp} {es : Es} {kvs : List (L2.Key × V)} (h : Paired (EsR H) es kvs) {n : List Nat} {e : Mng} {v : V} (hv : EntH H e v) : Paired (EsR H) (putE es n e) (putK kvs (Sum.inr (S n)) v) := by
  unfold putE putK
  rw [esR_any h n]
  by_cases z : (es.any fun x => decide (x.1 = n)) = true
  · rw [if_pos z, if_pos z]
    have go : ∀ {es : Es} {kvs : List (L2.Key × V)}, Paired (EsR H) es kvs → Paired (EsR H) (es.map fun x => if x.1 = n then (x.1, e) else x) (kvs.map fun kv => if kv.1 = Sum.inr (S n) then (kv.1, v) else kv) := by
      intro es kvs h
      induction h with
      | nil => exact .nil
      | @cons x kv es kvs a t ih =>
        refine .cons ?_ ih
        obtain ⟨m, e0⟩ := x
        obtain ⟨k, v0⟩ := kv
        obtain ⟨h1, h2⟩ := a
        have h1 : k = Sum.inr (S m) := h1
        subst h1
        by_cases w : m = n
        · show EsR H (if m = n then (m, e) else (m, e0)) (if (Sum.inr (S m) : L2.Key) = Sum.inr (S n) then (Sum.inr (S m), v) else (Sum.inr (S m), v0))
          rw [if_pos w, if_pos (by rw [w])]
          exact ⟨rfl, hv⟩
        · show EsR H (if m = n then (m, e) else (m, e0)) (if (Sum.inr (S m) : L2.Key) = Sum.inr (S n) then (Sum.inr (S m), v) else (Sum.inr (S m), v0))
          rw [if_neg w, if_neg (fun q => w (kS_inj q))]
          exact ⟨rfl, h2⟩
    exact go h
  · rw [if_neg z, if_neg z]
    exact paired_appN h (.cons ⟨rfl, hv⟩ .nil)
theorem putE_len (es : Es) (n : List Nat) (e : Mng) : (putE es n e).length = if lookE es n = none then es.length + 1 else es.length := by
  have : lookE es n = none ↔ (es.any fun x => decide (x.1 = n)) = false := by
    unfold lookE
    rw [Option.map_eq_none_iff, List.find?_eq_none, List.any_eq_false]
  unfold putE
  by_cases z : (es.any fun x => decide (x.1 = n)) = true
  · rw [if_pos z, if_neg (fun q => by rw [this.mp q] at z; cases z), List.length_map]
  · rw [if_neg z, if_pos (this.mpr (Bool.eq_false_iff.mpr z)), List.length_append]; rfl
structure BkC (K : PySem.W.Frag) (C : Addr) : Prop where
  cls : Cls K C
  na : NoAttr K C "alphabet"
  ne : NoAttr K C "entries"
  np : NoAttr K C "past"
  nh : NoAttr K C "ahead"
  nk : NoAttr K C "kept"
  nm : NoAttr K C "many_compiled"
  nt : NoAttr K C "most"
/-- a book: its letters, its capacity, its entries, the steps behind it and before it -/
structure Bk where
  gs : List Nat
  most : Nat
  now : Es
  past : List Es
  ahead : List Es
def EsL (H : Hp) (es : Es) (v : V) : Prop := ∃ D, v = .ref D ∧ EsH H D es
structure BkH (H : Hp) (C x P A : Addr) (b : Bk) : Prop where
  ins : ∃ dx D KD n, H x = some (.ins C dx [("alphabet", tx b.gs), ("entries", .ref D), ("past", .ref P), ("ahead", .ref A), ("kept", .ref KD), ("many_compiled", .int n), ("most", iv b.most)]) ∧ EsH H D b.now
  past : ∃ vs, H P = some (.lst vs) ∧ Paired (EsL H) b.past vs
  ahead : ∃ vs, H A = some (.lst vs) ∧ Paired (EsL H) b.ahead vs
  ne : P ≠ A
theorem EsH.keep {H H' : Hp} {D : Addr} {es : Es} (h : EsH H D es) (kd : ∀ b kvs, H b = some (.dK kvs) → H' b = some (.dK kvs)) (k : ∀ a xs, H a = some (.tup xs) → H' a = some (.tup xs)) : EsH H' D es := by
  obtain ⟨kvs, h1, h2⟩ := h
  exact ⟨kvs, kd _ _ h1, esR_keep k h2⟩
theorem EsL.keep {H H' : Hp} {es : Es} {v : V} (h : EsL H es v) (kd : ∀ b kvs, H b = some (.dK kvs) → H' b = some (.dK kvs)) (k : ∀ a xs, H a = some (.tup xs) → H' a = some (.tup xs)) : EsL H' es v := by
  obtain ⟨D, e, h⟩ := h
  exact ⟨D, e, h.keep kd k⟩
theorem BkH.same {H H' : Hp} {C x P A : Addr} {b : Bk} (h : BkH H C x P A b) (s : Same H H') : BkH H' C x P A b := by
  obtain ⟨⟨dx, D, KD, n, h1, h2⟩, ⟨vs, h3, h4⟩, ⟨ws, h5, h6⟩, ne⟩ := h
  exact ⟨⟨dx, D, KD, n, s _ _ h1, h2.same s⟩, ⟨vs, s _ _ h3, Paired.mapP h4 fun _ _ z => z.keep (fun b kvs e => s _ _ e) fun a xs e => s _ _ e⟩, ⟨ws, s _ _ h5, Paired.mapP h6 fun _ _ z => z.keep (fun b kvs e => s _ _ e) fun a xs e => s _ _ e⟩, ne⟩
/-- all but the book itself stays -/
def ChgB (H H' : Hp) (x P A : Addr) : Prop := ∀ b o, b ≠ x → b ≠ P → b ≠ A → H b = some o → H' b = some o
/-! raises -/
def spI1F (K : PySem.W.Frag) (C : Addr) (code fld : Str) : Sp := fun vs H Q _ => ∃ a v, vs = [.ref a, v] ∧ H a = some (exo a C none) ∧
  ∀ dx, H dx = none → dx ≠ a → Q .non (upd (upd (upd H dx (exd dx [("code", .str code)])) a (exo a C (some dx))) dx (exd dx [(fld, v), ("code", .str code)]))
theorem passE0 {X : Cx} {P : Program} {w : World} (hP : X.prog = P) (hW : X.w = w) : Passes (L2.CX P w) X E0 := fun pins σ H s e s' _ h => by
  obtain ⟨_, _, _, _, _, _, _, _, _, _, _, _, h⟩ := h
  exact h.elim
theorem raise1 {K : PySem.W.Frag} {C : Addr} {code fld : Str} {te : TE} {σ : L2.St} {H : Hp} {W : Value → Option Addr → Hp → Prop} {v : V} (h : ∀ k : VK, k v H → te σ H k) (q : ∀ H' d, Same H H' → H' d = some (.xd [(fld, v), ("code", .str code)]) → W (.ref C) (some d) H') :
    tMkO C (spI1F K C code fld) [] (tCons te tNil) σ H W := by
  refine h _ ⟨(by show 1 ≤ 1000; decide), fun a na => ⟨a, v, rfl, upd_same, fun dx nd ne => ⟨rfl, dx, _, ?_, upd_same, ?_, ?_⟩⟩⟩
  · rw [upd_ne ne.symm, upd_same]
  · exact (after0 (C := C) (fs := []) na nd ne).1
  · exact q _ _ (after1 na nd ne).2 upd_same
abbrev sInitLR : Stmt := inClass (topS 14) 0
theorem scInitLR : FnScope ["self", "limit"] ["self", "limit"] (defScope sInitLR) := ⟨rfl, rfl, rfl, by decide +kernel, rfl, by decide +kernel, by decide +kernel⟩
theorem ok_initLR {f C : Addr} {fd : FuncData} (F : Fun K "__init__" "LimitReached.__init__" sInitLR f fd) (T : ErrC K mg "LimitReached" C) (nl : PySem.W.findIn K (.ref C) "limit" = some none) :
    FnOk P w K mg base CX0 1 f fd ["self", "limit"] (spI1F K C "LimitReached" "limit") := by
  refine F.ok scInitLR (fun vs H Q E h => ?_) (fun cdv A outer s H vs Q E hr h => ?_)
  · obtain ⟨a, v, rfl, _⟩ := h
    rfl
  · obtain ⟨a, v, rfl, ha, q⟩ := h
    refine ⟨_, pss_cons (ps_ost (pv 0) pe_str) (pss_one (ps_ost (pv 0) (pv 1))), ?_⟩
    refine ⟨_, rfl, a, C, rfl, T.ox, T.nc, .inl ⟨ha, fun dx n ne => ?_⟩⟩
    refine ⟨_, rfl, _, rfl, a, C, rfl, T.ox, nl, .inr ⟨dx, _, upd_same, by rw [upd_ne ne, upd_same], by decide, q dx n ne⟩⟩
end
end Own

namespace Own
open PySem PySem.Spec PyProof.Rows L2 SX RZ
section
variable {P : Program} {w : World} {K : PySem.W.Frag} {mg : Str → Option Value} {base : Heap}
/-- a command of a right form -/
def CmdH (K : PySem.W.Frag) (w : World) (CM : Addr) (H : Hp) (v : V) : Prop := ∃ a w0 ys, v = .ref a ∧ H a = some (.tup (.str w0 :: ys)) ∧ ys.length ≤ 10 ∧ KDct K w CM w0 (iv (ys.length + 1))
def spCco (K : PySem.W.Frag) (w : World) (CM : Addr) : Sp := fun vs H Q _ => ∃ (T : Addr) (cs : List V), vs = [.ref T] ∧ H T = some (.tup cs) ∧ cs.length ≤ 100 ∧ (∀ c ∈ cs, CmdH K w CM H c) ∧ ∀ H', Same H H' → Q .non H'
abbrev sCco : Stmt := topS 112
abbrev ccoN : List Str := ["commands", "index", "command"]
theorem scCco : FnScope ccoN ["commands"] (defScope sCco) := ⟨rfl, rfl, rfl, by decide +kernel, rfl, by decide +kernel, by decide +kernel⟩
theorem ok_cco {f : Addr} {fd : FuncData} (m_enumerate : mg "enumerate" = none) (F : Fun K "check_commands" "check_commands" sCco f fd) (m_len : mg "len" = none) {CM : Addr} (gC : mg "COMMANDS" = some (.ref CM)) (DC : ∃ es n, KDict K w CM es n) :
    FnOk P w K mg base CX0 1 f fd ["commands"] (spCco K w CM) := by
  refine F.ok scCco (fun vs H Q E h => ?_) (fun cdv A outer s H vs Q E hr h => ?_)
  · obtain ⟨T, cs, rfl, _⟩ := h
    rfl
  · obtain ⟨T, cs, rfl, hT, hl, hc, q⟩ := h
    refine ⟨_, (pss_one (ps_for PassesOwn.never rfl (pi_enT (by rfl) m_enumerate (pa_cons (pv 0) pa_nil)) (pg_tup rfl (pgs_cons (pg_name (i := 1) scCco.nd rfl (by first | exact .inl rfl | exact .inr rfl)) (pgs_cons (pg_name (i := 2) scCco.nd rfl (by first | exact .inl rfl | exact .inr rfl)) pgs_nil)))
        (pss_one (ps_if (PW.pt (pw_or (pt_cmpR op_eq (pe_callB (callLenC (K := K) rfl) (by rfl) m_len PySem.boot_len (pa_cons (pv 2) pa_nil)) pe_int (nomark _)) (pw_or1 (pt_cmpR op_ne (pe_kget2 DC (pe_glob (v := .ref CM) (by rfl) gC rfl) (pe_ix (ixT (K := K) rfl) (pv 2) pe_int (fun _ _ => rfl)) pe_int ⟨rfl, rfl, rfl, rfl⟩) (pe_callB (callLenC (K := K) rfl) (by rfl) m_len PySem.boot_len (pa_cons (pv 2) pa_nil)) (nomark _))))) pss_never pss_nil)))), ?_⟩
    refine ⟨_, rfl, T, _, rfl, sqT hT, ?_⟩
    refine for_it (walkET (K := K) (a := T) (xs := cs)) (fun i σ H' => ∃ o1 o2 : Option V, σ = [some (.ref T), o1, o2] ∧ Same H H') ⟨_, _, rfl, Same.refl _⟩ (fun i σ H' _ ⟨_, _, _, s⟩ => sqT (s _ _ hT)) ?_ ?_
    · rintro i v σ H1 H2 hi ⟨o1, o2, rfl, s1⟩ ⟨T1, u, rfl, nT, hu, rfl⟩
      obtain ⟨a, w0, ys, rfl, ha, hyl, hk⟩ := hc u (List.mem_of_getElem? hu)
      have sT := same_new (o := .tup [iv i, V.ref a]) nT
      have hT1 : upd H1 T1 (.tup [iv i, V.ref a]) T1 = some (.tup [iv i, V.ref a]) := upd_same
      have s2 := s1.trans sT
      generalize upd H1 T1 (.tup [iv i, V.ref a]) = H2 at sT s2 hT1 ⊢
      refine ⟨T1, _, rfl, sqT hT1, rfl, _, _, rfl, _, _, rfl, rfl, ?_⟩
      try dsimp only [gName, tSeq, tAsg, List.set_cons_zero, List.set_cons_succ]
      have ha2 := s2 _ _ ha
      refine ⟨_, rfl, a, _, rfl, .inr (sqT ha2), rfl, _, rfl, ?_⟩
      rw [decide_eq_false (fun e => by injection e with e; rw [List.length_cons] at e; omega)]
      refine iteF ⟨_, rfl, a, _, 0, _, rfl, rfl, sqT ha2, atI_nat (j := 0) rfl, w0, rfl, .inl ⟨_, hk, _, rfl, a, _, rfl, .inr (sqT ha2), rfl, _, rfl, ?_⟩⟩
      rw [show (!decide (iv (ys.length + 1) = V.int (((V.str w0 :: ys).length : Nat) : Int))) = false by rw [List.length_cons, decide_eq_true rfl]; rfl]
      exact iteF ⟨_, _, rfl, s2⟩
    · rintro σ H1 ⟨o1, o2, rfl, s1⟩
      exact q _ s1
end
end Own

namespace Own
open PySem PySem.Spec PyProof.Rows L2 SX RZ
section
variable {P : Program} {w : World} {K : PySem.W.Frag} {mg : Str → Option Value} {base : Heap}
def spCnm : Sp := fun vs H Q _ => ∃ (n : List Nat), vs = [tx n] ∧ OkN n ∧ ∀ H', Same H H' → Q .non H'
abbrev sCnm : Stmt := topS 113
abbrev cnmN : List Str := ["name", "strange", "sign"]
theorem scCnm : FnScope cnmN ["name"] (defScope sCnm) := ⟨rfl, rfl, rfl, by decide +kernel, rfl, by decide +kernel, by decide +kernel⟩
theorem ok_cnm {f : Addr} {fd : FuncData} (F : Fun K "check_name" "check_name" sCnm f fd) (m_len : mg "len" = none) (gLo : ∃ t, mg "LOWERCASE" = some (.str (Str.ofString "abcdefghijklmnopqrstuvwxyz") t)) (gMN : ∃ t, mg "MOST_NAME" = some (.int 8 t)) :
    FnOk P w K mg base CX0 1 f fd ["name"] spCnm := by
  refine F.ok scCnm (fun vs H Q E h => ?_) (fun cdv A outer s H vs Q E hr h => ?_)
  · obtain ⟨n, rfl, _⟩ := h
    rfl
  · obtain ⟨n, rfl, hn, q⟩ := h
    obtain ⟨tLo, eLo⟩ := gLo
    obtain ⟨tMN, eMN⟩ := gMN
    refine ⟨_, (pss_cons (ps_setLc (i := 1) (own := [("sign", 2)]) (g := gName 2)   rfl scCnm.nd rfl rfl (sw_true rfl rfl rfl (by decide +kernel)) (pi_str (pv 0)) (blkOk_by (N := cnmN) (sc := defScope sCnm) (by decide +kernel)) (fun _ _ _ _ _ => pg_name (i := 2) scCnm.nd rfl (Or.inl rfl)) (fun _ _ _ _ _ => pts_one (pt_cmpR op_notIn_sign (pv 2) (pe_glob (v := .str (Str.ofString "abcdefghijklmnopqrstuvwxyz")) (by rfl) eLo ⟨_, rfl⟩) (by rfl))) (fun _ _ _ _ _ => (pv 2)))
      (pss_one (ps_if (PW.pt (pw_or (pt_cmpR op_gt (pe_callB (callLenC (K := K) rfl) (by rfl) m_len PySem.boot_len (pa_cons (pv 1) pa_nil)) pe_int (nomark _)) (pw_or1 (pt_not (pt_chain op_le op_le pe_int (pe_callB call_len_str (by rfl) m_len PySem.boot_len (pa_cons (pv 0) pa_nil)) (pe_glob (v := .int 8) (by rfl) eMN ⟨_, rfl⟩)))))) pss_never pss_nil))), ?_⟩
    obtain ⟨h0, h8, hm⟩ := hn
    have hz : (S n).length ≤ sizeLine := by rw [S_len, sizeLine_eq]; omega
    have lower : ∀ c : Nat, decide (c ∈ (Str.ofString "abcdefghijklmnopqrstuvwxyz").cps.toList) = decide (97 ≤ c ∧ c ≤ 122) := fun c => by
      have e : (Str.ofString "abcdefghijklmnopqrstuvwxyz").cps.toList = List.range' 97 26 := by decide +kernel
      rw [e]
      by_cases h : 97 ≤ c ∧ c ≤ 122
      · rw [decide_eq_true h]
        exact decide_eq_true (List.mem_range'_1.mpr (by omega))
      · rw [decide_eq_false h]
        exact decide_eq_false fun m => h (by have := List.mem_range'_1.mp m; omega)
    refine ⟨_, rfl, S n, rfl, fun D nD => ?_⟩
    refine lc_it (walk_str (z := S n)) (fun i H' => H' = upd H D (.lst [])) rfl (fun _ _ _ _ => True.intro) ?_ ?_
    · rintro i x H' H'' hi rfl ⟨rfl, c, hc, rfl⟩
      have hcm : c ∈ n := by
        have : n.toArray[i]? = some c := hc
        rw [← Array.getElem?_toList] at this
        exact List.mem_of_getElem? this
      refine ⟨rfl, _, rfl, c, _, rfl, rfl, _, rfl, ?_⟩
      rw [lower, decide_eq_true (hm c hcm)]
      exact iteF rfl
    · rintro H' rfl
      try dsimp only [gName, tSeq, tAsg, List.set_cons_zero, List.set_cons_succ]
      refine ⟨_, rfl, D, _, rfl, .inl (sqL upd_same), _, _, rfl, rfl, _, rfl, ?_⟩
      rw [show decide (((0 : Int)) < ((([] : List V).length : Nat) : Int)) = false from rfl]
      refine iteF ⟨_, rfl, S n, rfl, hz, _, _, rfl, rfl, _, rfl, ?_⟩
      rw [S_len, decide_eq_true (show (1 : Int) ≤ ((n.length : Nat) : Int) by omega)]
      refine iteT ⟨_, _, rfl, rfl, _, rfl, ?_⟩
      rw [decide_eq_true (show ((n.length : Nat) : Int) ≤ 8 by omega)]
      exact iteF (q _ (same_new nD))
end
end Own

namespace Own
open PySem PySem.Spec PyProof.Rows L2 SX RZ
section
variable {P : Program} {w : World} {K : PySem.W.Frag} {mg : Str → Option Value} {base : Heap}
def spUse0 : Sp := fun vs H Q _ => ∃ (D L : Addr) (n : List Nat), vs = [.ref D, .ref L, tx n] ∧ H L = some (.lst []) ∧ ∀ H', Same H H' → Q (.bl false) H'
abbrev sUse : Stmt := topS 116
abbrev useN : List Str := ["entries", "starts", "name", "seen", "waiting", "kind", "meant", "used", "start"]
theorem scUse : FnScope useN ["entries", "starts", "name"] (defScope sUse) := ⟨rfl, rfl, rfl, by decide +kernel, rfl, by decide +kernel, by decide +kernel⟩
theorem ok_use {f : Addr} {fd : FuncData} (F : Fun K "uses" "uses" sUse f fd) (m_list : mg "list" = none) :
    FnOk P w K mg base CX0 1 f fd ["entries", "starts", "name"] spUse0 := by
  refine F.ok scUse (fun vs H Q E h => ?_) (fun cdv A outer s H vs Q E hr h => ?_)
  · obtain ⟨D, L, n, rfl, _⟩ := h
    rfl
  · obtain ⟨D, L, n, rfl, hL, q⟩ := h
    have hu := hu_of hr
    refine ⟨_, (pss_cons (ps_setDc (i := 3) (own := [("start", 8)]) (g := gName 8) (tt := tYes) (tv := tC (.bl true)) rfl scUse.nd rfl rfl (sw_trueD rfl rfl rfl (by decide +kernel)) (pi_list (pv 1)) (blkOk_by (N := useN) (sc := defScope sUse) (by decide +kernel)) (fun _ _ _ _ _ => pg_name (i := 8) scUse.nd rfl (Or.inl rfl)) (fun _ _ _ _ _ => pts_nil) (fun _ _ _ _ _ => pv 8) (fun _ _ _ _ _ => pe_bl))
      (pss_cons (ps_set (i := 4) scUse.nd rfl (by first | exact .inl rfl | exact .inr rfl) (pe_callTy call_list_of (by rfl) m_list (by decide +kernel) (pa_cons (pv 1) pa_nil)))
      (pss_cons (ps_while PassesOwn.never (pt_truth (pv 4) (fun _ => rfl)) pss_never)
      (pss_one (ps_ret (pe_cmp (pc_din hu (pv 2) (pv 3)))))))), ?_⟩
    refine ⟨_, rfl, L, rfl, ⟨_, sqL hL⟩, fun K1 nK => ?_⟩
    have sK := same_new (o := .dK []) nK
    refine dc_it (walk_list (K := K) (a := L) (xs := [])) (fun i H' => H' = upd H K1 (.dK [])) rfl (fun i H' _ h => by rw [h]; exact sqL (sK _ _ hL)) (fun i x H1 H2 hi _ _ => absurd hi (Nat.not_lt_zero _)) ?_
    rintro H1 rfl
    try dsimp only [gName, tSeq, tAsg, List.set_cons_zero, List.set_cons_succ]
    refine ⟨_, rfl, L, _, rfl, .inl (sqL (sK _ _ hL)), fun W nW => ?_⟩
    have sW := same_new (o := .lst ([] : List V)) nW
    have hK : upd (upd H K1 (.dK [])) W (.lst []) K1 = some (.dK []) := sW _ _ upd_same
    have hW : upd (upd H K1 (.dK [])) W (.lst []) W = some (.lst []) := upd_same
    have s2 := sK.trans sW
    generalize upd (upd H K1 (.dK [])) W (.lst []) = H2 at hK hW s2 ⊢
    refine ⟨fun m σ H' => m = 0 ∧ σ = [some (.ref D), some (.ref L), some (tx n), some (.ref K1), some (.ref W), none, none, none, none] ∧ H' = H2, ⟨0, rfl, rfl, rfl⟩, ?_⟩
    rintro m σ H3 ⟨rfl, rfl, rfl⟩
    refine ⟨_, rfl, false, .inl ⟨_, sqL hW, rfl⟩, ?_⟩
    refine iteF ?_
    exact ⟨_, rfl, _, rfl, K1, none, rfl, .inl ⟨[], Sum.inr (S n), .inl hK, rfl, rfl⟩, q _ s2⟩
end
end Own

namespace Own
open PySem PySem.Spec PyProof.Rows L2 SX RZ
section
variable {P : Program} {w : World} {K : PySem.W.Frag} {mg : Str → Option Value} {base : Heap}
/-- no names stand in it -/
def NoNm (e : Mng) : Prop := mngNames e = [] ∧ mngCalls e = [] ∧ mngAsked e = []
def spCus0 : Sp := fun vs H Q _ => ∃ (D : Addr) (n : List Nat) (e : Mng) (m : V), vs = [.ref D, tx n, .str e.kind, m] ∧ MnH H e m ∧ MngSz e ∧ NoNm e ∧ ∀ H', Same H H' → Q .non H'
abbrev sCus : Stmt := topS 117
abbrev cusN : List Str := ["entries", "name", "kind", "meant", "called", "asked", "used", "other", "wrong"]
theorem scCus : FnScope cusN ["entries", "name", "kind", "meant"] (defScope sCus) := ⟨rfl, rfl, rfl, by decide +kernel, rfl, by decide +kernel, by decide +kernel⟩
theorem ok_cus {f : Addr} {fd : FuncData} (F : Fun K "check_used" "check_used" sCus f fd) {f1 : Addr} {fd1 : FuncData} (c1 : Cl P w K mg base "names_called" 6 ["kind", "meant"] spNcl f1 fd1) {f2 : Addr} {fd2 : FuncData} (c2 : Cl P w K mg base "names_asked" 6 ["kind", "meant"] spNas f2 fd2) {f3 : Addr} {fd3 : FuncData} (c3 : Cl P w K mg base "names_used" 7 ["kind", "meant"] spNus f3 fd3) {f4 : Addr} {fd4 : FuncData} (c4 : Cl P w K mg base "uses" 1 ["entries", "starts", "name"] spUse0 f4 fd4) :
    FnOk P w K mg base CX0 8 f fd ["entries", "name", "kind", "meant"] spCus0 := by
  refine F.ok scCus (fun vs H Q E h => ?_) (fun cdv A outer s H vs Q E hr h => ?_)
  · obtain ⟨D, n, e, m, rfl, _⟩ := h
    rfl
  · obtain ⟨D, n, e, m, rfl, hm, hz, hno, q⟩ := h
    refine ⟨_, (pss_cons (ps_par (i := 4) (j := 5) (by rfl) scCus.nd rfl rfl (by decide) rfl rfl (pa_cons (pe_cl c1 hr (by decide) (by rfl) (pa_cons (pv 2) (pa_cons (pv 3) pa_nil))) (pa_cons (pe_cl c2 hr (by decide) (by rfl) (pa_cons (pv 2) (pa_cons (pv 3) pa_nil))) pa_nil)) (by rfl))
      (pss_cons (ps_set (i := 6) scCus.nd rfl (by first | exact .inl rfl | exact .inr rfl) (pe_cl c3 hr (by decide) (by rfl) (pa_cons (pv 2) (pa_cons (pv 3) pa_nil))))
      (pss_cons (ps_for PassesOwn.never rfl (pi_list (pv 6)) (pg_name (i := 7) scCus.nd rfl (by first | exact .inl rfl | exact .inr rfl)) pss_never)
      (pss_one (ps_if (pt_val (pe_cl c4 hr (by decide) (by rfl) (pa_cons (pv 0) (pa_cons (pv 6) (pa_cons (pv 1) pa_nil))))) pss_never pss_nil))))), ?_⟩
    obtain ⟨hno1, hno2, hno3⟩ := hno
    refine ⟨_, rfl, _, rfl, e, m, rfl, hm, hz, fun H1 p1 s1 np1 hp1 => ?_⟩
    refine ⟨_, rfl, _, rfl, e, m, rfl, hm.keep (fun a xs z => s1 _ _ z), hz, fun H2 p2 s2 np2 hp2 => ?_⟩
    refine ⟨_, _, rfl, ?_⟩
    try dsimp only [gName, tSeq, tAsg, List.set_cons_zero, List.set_cons_succ]
    refine ⟨_, rfl, _, rfl, e, m, rfl, hm.keep (fun a xs z => (s1.trans s2) _ _ z), hz, fun H3 p3 s3 np3 hp3 => ?_⟩
    try dsimp only [gName, tSeq, tAsg, List.set_cons_zero, List.set_cons_succ]
    rw [hno1] at hp3
    have hp3 : H3 p3 = some (.lst []) := hp3
    refine ⟨_, rfl, p3, rfl, ⟨_, sqL hp3⟩, ?_⟩
    refine for_it (walk_list (K := K) (a := p3) (xs := [])) (fun i σ H' => σ = [some (.ref D), some (tx n), some (V.str e.kind), some m, some (.ref p1), some (.ref p2), some (.ref p3), none, none] ∧ H' = H3) ⟨rfl, rfl⟩ (fun i σ H' _ h => by rw [h.2]; exact sqL hp3) (fun i x σ H1 H2 hi _ _ => absurd hi (Nat.not_lt_zero _)) ?_
    rintro σ H4 ⟨rfl, rfl⟩
    refine ⟨_, rfl, _, rfl, _, rfl, D, p3, n, rfl, hp3, fun H5 s5 => ⟨_, rfl, ?_⟩⟩
    exact iteF (q _ (s1.trans (s2.trans (s3.trans s5))))
end
end Own

namespace Own
open PySem PySem.Spec PyProof.Rows L2 SX RZ
section
variable {P : Program} {w : World} {K : PySem.W.Frag} {mg : Str → Option Value} {base : Heap}
/-- the text of what a name is to stand for -/
def MnTx (gs : List Nat) : Mng → List Nat → Prop
  | .cd c, t => t = Cnd.cTx c ∧ OkS gs c ∧ Cnd.dpt c ≤ 60
  | .pg p, t => t = Prg.pTx p ∧ OkT gs p ∧ Prg.some? p = true
def spDfn0 (CL : Addr) : Sp := fun vs H Q E => ∃ (gs : List Nat) (cap : Nat) (D T : Addr) (es : Es) (n t : List Nat) (e : Mng), vs = [tx gs, iv cap, .ref D, .ref T] ∧ Good gs ∧ EsH H D es ∧ es.length ≤ 1000 ∧ H T = some (.tup [.str e.kind, tx n, tx t]) ∧ OkN n ∧ MnTx gs e t ∧ t.length ≤ 100000 ∧ MngSz e ∧ NoNm e ∧
  (∀ e', lookE es n = some e' → e'.kind = e.kind) ∧
  ((lookE es n ≠ none ∨ es.length < cap) → ∀ H', (∀ b o, b ≠ D → H b = some o → H' b = some o) → EsH H' D (putE es n e) → Q .non H') ∧
  (lookE es n = none → cap ≤ es.length → ∀ H' d, Same H H' → H' d = some (.xd [("limit", iv cap), ("code", .str "LimitReached")]) → E (.ref CL) (some d) H')
abbrev sDfn : Stmt := topS 118
abbrev dfnN : List Str := ["letters", "capacity", "entries", "command", "kind", "name", "text", "meant"]
theorem scDfn : FnScope dfnN ["letters", "capacity", "entries", "command"] (defScope sDfn) := ⟨rfl, rfl, rfl, by decide +kernel, rfl, by decide +kernel, by decide +kernel⟩
theorem ok_dfn {f : Addr} {fd : FuncData} (m_len : mg "len" = none) (F : Fun K "define" "define" sDfn f fd) {CL fL : Addr} {fdL : FuncData} (TL : ErrC K mg "LimitReached" CL) (iL : PySem.W.findIn K (.ref CL) "__init__" = some (some (.ref fL))) (tL : PySem.W.typeIn K (.ref fL) = some (.type "function")) (GL : FnOk P w K mg base CX0 1 fL fdL ["self", "limit"] (spI1F K CL "LimitReached" "limit")) (bL : Binds K fdL ["self", "limit"] []) {f1 : Addr} {fd1 : FuncData} (c1 : Cl P w K mg base "check_name" 1 ["name"] spCnm f1 fd1) {f2 : Addr} {fd2 : FuncData} (c2 : Cl P w K mg base "parse_condition" 10 ["letters", "text"] spPrs f2 fd2) {f3 : Addr} {fd3 : FuncData} (c3 : Cl P w K mg base "parse_program" 11 ["letters", "text"] spPpr f3 fd3) {f4 : Addr} {fd4 : FuncData} (c4 : Cl P w K mg base "check_used" 8 ["entries", "name", "kind", "meant"] spCus0 f4 fd4) :
    FnOk P w K mg base (L2.CX P w) 12 f fd ["letters", "capacity", "entries", "command"] (spDfn0 CL) := by
  refine F.okX scDfn (fun vs H Q E h => ?_) (fun cdv A outer s H vs Q E hr h => ?_)
  · obtain ⟨gs, cap, D, T, es, n, t, e, rfl, _⟩ := h
    rfl
  · obtain ⟨gs, cap, D, T, es, n, t, e, rfl, hg, hD, hel, hT, hn, ht, htl, hz, hno, hk, q, qe⟩ := h
    have hu := hu_of hr
    refine ⟨_, (pss_cons (ps_asg (pv 3) (pg_tup rfl (pgs_cons (pg_name (i := 4) scDfn.nd rfl (by first | exact .inl rfl | exact .inr rfl)) (pgs_cons (pg_name (i := 5) scDfn.nd rfl (by first | exact .inl rfl | exact .inr rfl)) (pgs_cons (pg_name (i := 6) scDfn.nd rfl (by first | exact .inl rfl | exact .inr rfl)) pgs_nil)))))
      (pss_cons (ps_expr (pe_cl c1 hr (by decide) (by rfl) (pa_cons (pv 5) pa_nil)))
      (pss_cons (ps_if (PW.pt (pw_and (pt_cmp (pc_din hu (pv 5) (pv 2))) (pw_and1 (pt_cmpR op_ne (pe_ix (ixT (K := K) rfl) (pe_dget hu (pv 2) (pv 5) (fun _ _ => rfl)) pe_int (fun _ _ => rfl)) (pv 4) (nomark _))))) pss_never pss_nil)
      (pss_cons (ps_if (PW.pt (pw_and (pt_cmp (pc_dnotin hu (pv 5) (pv 2))) (pw_and1 (pt_cmpR op_ge (pe_callB call_lenD (by rfl) m_len PySem.boot_len (pa_cons (pv 2) pa_nil)) (pv 1) (nomark _))))) (pss_one (ps_raise rfl (takes_of rfl rfl rfl rfl) (pmk_oex TL.ox iL tL GL (hr.mono (by decide)) bL .nil pass0 (by rfl) TL.gl (pa_cons (pv 1) pa_nil)))) pss_nil)
      (pss_cons (ps_set (i := 7) scDfn.nd rfl (by first | exact .inl rfl | exact .inr rfl) (pe_ifExp (pt_cmpR op_eq (pv 4) pe_str (nomark _)) (pe_cl c2 hr (by decide) (by rfl) (pa_cons (pv 0) (pa_cons (pv 6) pa_nil))) (pe_cl c3 hr (by decide) (by rfl) (pa_cons (pv 0) (pa_cons (pv 6) pa_nil)))))
      (pss_cons (ps_expr (pe_cl c4 hr (by decide) (by rfl) (pa_cons (pv 2) (pa_cons (pv 5) (pa_cons (pv 4) (pa_cons (pv 7) pa_nil))))))
      (pss_one (ps_dput hu (pv 2) (pv 5) (pe_tup (pa_cons (pv 4) (pa_cons (pv 7) pa_nil))) rfl)))))))), ?_⟩
    obtain ⟨kvs, hD1, hD2⟩ := hD
    have hlk := esR_look hD2 n
    have hkl := Paired.length hD2
    refine ⟨_, rfl, T, _, rfl, sqT hT, rfl, _, _, rfl, _, _, rfl, _, _, rfl, rfl, ?_⟩
    try dsimp only [gName, tSeq, tAsg, List.set_cons_zero, List.set_cons_succ]
    refine ⟨_, rfl, n, rfl, hn, fun H1 s1 => ?_⟩
    have hD3 := s1 _ _ hD1
    have hr2 := esR_keep (fun a xs e => s1 _ _ e) hD2
    have hlk := esR_look hr2 n
    dsimp only [tSeq]
    try dsimp only [gName, tSeq, tAsg, List.set_cons_zero, List.set_cons_succ]
    refine if_pick False (fun z => z.elim) (fun _ => ?_) (fun k _ kf => ?_)
    rotate_left
    · refine ⟨_, rfl, _, rfl, D, _, rfl, .inl ⟨kvs, Sum.inr (S n), .inl hD3, rfl, rfl⟩, _, rfl, ?_⟩
      rcases hlk with ⟨_, e2⟩ | ⟨e', v, e1, e2, t, m, rfl, h1, h2⟩
      · rw [e2]
        exact iteF (kf fun z => z)
      · rw [e2]
        refine iteT ?_
        refine ⟨_, rfl, _, rfl, D, _, rfl,   .inl ⟨kvs, Sum.inr (S n), .inl hD3, rfl, e2.symm⟩, ?_⟩
        refine ⟨t, _, 0, _, rfl, rfl, sqT h1, atI_nat (j := 0) rfl, _, rfl, rfl, _, rfl, ?_⟩
        rw [hk e' e1, show (!decide (V.str e.kind = V.str e.kind)) = false by rw [decide_eq_true rfl]; rfl]
        exact kf fun z => z
    dsimp only [tNext, tSeq]
    refine if_pick (lookE es n = none ∧ cap ≤ es.length) (fun z => ?_) (fun z => ?_) (fun k kt kf => ?_)
    · exact raise1 (fun k h => ⟨_, rfl, h⟩) fun H' d s hd => qe z.1 z.2 _ _ (s1.trans s) hd
    rotate_left
    · refine ⟨_, rfl, _, rfl, D, _, rfl, .inl ⟨kvs, Sum.inr (S n), .inl hD3, rfl, rfl⟩, _, rfl, ?_⟩
      rcases hlk with ⟨e1, e2⟩ | ⟨e', v, e1, e2, _⟩
      · rw [e2]
        refine iteT ?_
        refine ⟨_, rfl, D, kvs, rfl, hD3, _, rfl, _, _, rfl, rfl, _, rfl, ?_⟩
        rw [← hkl]
        by_cases c : cap ≤ es.length
        · rw [decide_eq_true (show ((cap : Nat) : Int) ≤ ((es.length : Nat) : Int) by omega)]
          exact kt ⟨e1, c⟩
        · rw [decide_eq_false (show ¬ ((cap : Nat) : Int) ≤ ((es.length : Nat) : Int) by omega)]
          exact kf fun z => c z.2
      · rw [e2]
        exact iteF (kf fun z => by rw [e1] at z; cases z.1)
    have can : lookE es n ≠ none ∨ es.length < cap := by
      by_cases c : lookE es n = none
      · exact .inr (Nat.lt_of_not_le fun z2 => z ⟨c, z2⟩)
      · exact .inl c
    have made : ∀ (H2 : Hp) (m : V), Same H1 H2 → MnH H2 e m → tSeq (tDrop (tCall spCus0 [] E0 (tCons (tVar 2) (tCons (tVar 5) (tCons (tVar 4) (tCons (tVar 7) tNil))))))
              (sDPut (tVar 2) (tVar 5) (tTup (tCons (tVar 4) (tCons (tVar 7) tNil)))) { nx := fun x H' => Q V.non H', rt := Q } [some (tx gs), some (iv cap), some (.ref D), some (.ref T), some (.str e.kind), some (tx n), some (tx t), some m] H2 := fun H2 m s2 hm => by
      refine ⟨_, rfl, _, rfl, _, rfl, _, rfl, D, n, e, m, rfl, hm, hz, hno, fun H3 s3 => ?_⟩
      refine ⟨_, rfl, _, rfl, (by show 2 ≤ sizeLine; decide), fun U nU => ?_⟩
      have sU := same_new (o := .tup [V.str e.kind, m]) nU
      have hD4 := sU _ _ (s3 _ _ (s2 _ _ hD3))
      refine ⟨_, rfl, _, rfl, D, _, rfl, .inl ⟨kvs, Sum.inr (S n), hD4, rfl, by rw [← hkl, sizeLine_eq]; omega, rfl⟩, ?_⟩
      have sA := (s1.trans s2).trans (s3.trans sU)
      have tk : ∀ b xs o, upd H3 U (.tup [V.str e.kind, m]) b = some (.tup xs) → upd (upd H3 U (.tup [V.str e.kind, m])) D o b = some (.tup xs) := fun b xs o z => by
        rw [upd_ne (fun q => by rw [q, hD4] at z; cases z)]; exact z
      refine q can _ (fun b o nb z => by rw [upd_ne nb]; exact sA _ _ z) ⟨_, upd_same, esR_put (esR_keep (fun a xs z => tk _ _ _ (sA _ _ z)) hD2) ⟨U, m, rfl, tk _ _ _ upd_same, ((hm.keep fun a xs z => s3 _ _ z).keep fun a xs z => sU _ _ z).keep fun a xs z => tk _ _ _ z⟩⟩
    refine ⟨_, rfl, rfl, _, rfl, ?_⟩
    cases e with
    | cd c =>
      obtain ⟨rfl, ok, dp⟩ := ht
      rw [show decide (V.str (Mng.kind (.cd c)) = V.str (Str.ofString "condition")) = true from decide_eq_true rfl]
      refine iteT ?_
      exact ⟨_, rfl, _, rfl, gs, c, rfl, hg, htl, ok, dp, fun H2 m s2 hm => made H2 m s2 hm⟩
    | pg p =>
      obtain ⟨rfl, ok, so⟩ := ht
      rw [show decide (V.str (Mng.kind (.pg p)) = V.str (Str.ofString "condition")) = false from decide_eq_false kd_pc]
      refine iteF ?_
      exact ⟨_, rfl, _, rfl, gs, p, rfl, hg, htl, so, ok, fun H2 m s2 hm => made H2 m s2 hm⟩
end
end Own

namespace Own
open PySem PySem.Spec PyProof.Rows L2 SX RZ
section
variable {P : Program} {w : World} {K : PySem.W.Frag} {mg : Str → Option Value} {base : Heap}
abbrev sRcm : Stmt := topS 121
abbrev rcmN : List Str := ["letters", "capacity", "entries", "command"]
theorem scRcm : FnScope rcmN ["letters", "capacity", "entries", "command"] (defScope sRcm) := ⟨rfl, rfl, rfl, by decide +kernel, rfl, by decide +kernel, by decide +kernel⟩
theorem ok_rcm {f : Addr} {fd : FuncData} (F : Fun K "run_command" "run_command" sRcm f fd) {CL fD : Addr} {fdD : FuncData} (GD : FnOk P w K mg base (L2.CX P w) 12 fD fdD ["letters", "capacity", "entries", "command"] (spDfn0 CL)) (gD : mg "define" = some (.ref fD)) (kD : PySem.W.keepIn K (.ref fD) = true) (bD : Binds K fdD ["letters", "capacity", "entries", "command"] []) :
    FnOk P w K mg base (L2.CX P w) 13 f fd ["letters", "capacity", "entries", "command"] (spDfn0 CL) := by
  refine F.okX scRcm (fun vs H Q E h => ?_) (fun cdv A outer s H vs Q E hr h => ?_)
  · obtain ⟨gs, cap, D, T, es, n, t, e, rfl, _⟩ := h
    rfl
  · obtain ⟨gs, cap, D, T, es, n, t, e, rfl, h⟩ := h
    have hT := h.2.2.2.1
    refine ⟨_, (pss_one (ps_if (pt_cmpR op_eq (pe_ix (ixT (K := K) rfl) (pv 3) pe_int (fun _ _ => rfl)) pe_str (nomark _)) pss_never (pss_one (ps_if (pt_cmpR op_eq (pe_ix (ixT (K := K) rfl) (pv 3) pe_int (fun _ _ => rfl)) pe_str (nomark _)) pss_never (pss_one (ps_expr (pe_call GD (hr.mono (by decide)) (by rfl) gD kD bD .nil (passes_call (takes_of rfl rfl rfl rfl) (fun _ _ _ _ h => h)) (pa_cons (pv 0) (pa_cons (pv 1) (pa_cons (pv 2) (pa_cons (pv 3) pa_nil))))))))))), ?_⟩
    have hk : ∀ e : Mng, V.str e.kind ≠ V.str (Str.ofString "drop") ∧ V.str e.kind ≠ V.str (Str.ofString "rename") := fun e => by
      cases e
      · exact ⟨by show V.str (Str.ofString "condition") ≠ _; decide +kernel, by show V.str (Str.ofString "condition") ≠ _; decide +kernel⟩
      · exact ⟨by show V.str (Str.ofString "program") ≠ _; decide +kernel, by show V.str (Str.ofString "program") ≠ _; decide +kernel⟩
    refine ⟨_, rfl, T, _, 0, _, rfl, rfl, sqT hT, atI_nat (j := 0) rfl, rfl, _, rfl, ?_⟩
    rw [decide_eq_false (hk e).1]
    refine iteF ⟨_, rfl, T, _, 0, _, rfl, rfl, sqT hT, atI_nat (j := 0) rfl, rfl, _, rfl, ?_⟩
    rw [decide_eq_false (hk e).2]
    exact iteF ⟨_, rfl, _, rfl, _, rfl, _, rfl, gs, cap, D, T, es, n, t, e, rfl, h⟩
end
end Own

namespace Own
open PySem PySem.Spec PyProof.Rows L2 SX RZ
section
variable {P : Program} {w : World} {K : PySem.W.Frag} {mg : Str → Option Value} {base : Heap}
/-! ### the class Book -/
abbrev BkM (i : Nat) : Stmt := inClass (topS 123) i
abbrev lrXd (n : Nat) : HO := .xd [("limit", iv n), ("code", .str "LimitReached")]
/-! set_capacity -/
def spSc (C CL : Addr) : Sp := fun vs H Q E => ∃ (x P A : Addr) (b : Bk) (m : Int), vs = [.ref x, .int m] ∧ BkH H C x P A b ∧
  (((max 1 b.now.length : Nat) : Int) ≤ m → m ≤ 12 → ∀ H', (∀ c o, c ≠ x → H c = some o → H' c = some o) → BkH H' C x P A { b with most := m.toNat } → Q .non H') ∧
  ((m < ((max 1 b.now.length : Nat) : Int) ∨ 12 < m) → ∀ H' d, Same H H' → H' d = some (lrXd 12) → E (.ref CL) (some d) H')
abbrev sSc : Stmt := BkM 5
theorem scSc : FnScope ["self", "most"] ["self", "most"] (defScope sSc) := ⟨rfl, rfl, rfl, by decide +kernel, rfl, by decide +kernel, by decide +kernel⟩
theorem ok_sc {f C CL fL : Addr} {fd fdL : FuncData} (F : Fun K "set_capacity" "Book.set_capacity" sSc f fd) (T : BkC K C) (m_max : mg "max" = none) (m_len : mg "len" = none) (gMn : ∃ t, mg "MOST_NAMES" = some (.int 12 t))
    (TL : ErrC K mg "LimitReached" CL) (iL : PySem.W.findIn K (.ref CL) "__init__" = some (some (.ref fL))) (tL : PySem.W.typeIn K (.ref fL) = some (.type "function")) (GL : FnOk P w K mg base CX0 1 fL fdL ["self", "limit"] (spI1F K CL "LimitReached" "limit")) (bL : Binds K fdL ["self", "limit"] []) :
    FnOk P w K mg base (L2.CX P w) 3 f fd ["self", "most"] (spSc C CL) := by
  obtain ⟨tMn, eMn⟩ := gMn
  refine F.okX scSc (fun vs H Q E h => ?_) (fun cdv A outer s H vs Q E hr h => ?_)
  · obtain ⟨x, P, A, b, m, rfl, _⟩ := h
    rfl
  · obtain ⟨x, P, A, b, m, rfl, hB, q, qe⟩ := h
    obtain ⟨⟨dx, D, KD, n, h1, kvs, hD, hR⟩, hP, hA, ne⟩ := id hB
    have hl := Paired.length hR
    refine ⟨_, pss_cons (ps_if (pt_not (pt_chain op_le op_le (pe_callB (call_max2 rfl) (by rfl) m_max (by decide +kernel) (pa_cons pe_int (pa_cons (pe_callB call_lenD (by rfl) m_len PySem.boot_len (pa_cons (pe_fld (pv 0) (by rfl)) pa_nil)) pa_nil))) (pv 1) (pe_glob (v := .int 12) (by rfl) eMn ⟨_, rfl⟩)))
        (pss_one (ps_raise rfl (takes_of rfl rfl rfl rfl) (pmk_oex TL.ox iL tL GL (hr.mono (by decide)) bL .nil pass0 (by rfl) TL.gl (pa_cons (pe_glob (v := .int 12) (by rfl) eMn ⟨_, rfl⟩) pa_nil)))) pss_nil)
      (pss_one (ps_fld (pv 0) (pv 1) (by rfl))), ?_⟩
    have hmx : (if ((kvs.length : Nat) : Int) > 1 then ((kvs.length : Nat) : Int) else 1) = ((max 1 b.now.length : Nat) : Int) := by
      rw [← hl]
      by_cases z : 1 < b.now.length
      · rw [if_pos (by omega), Nat.max_eq_right (by omega)]
      · rw [if_neg (by omega), Nat.max_eq_left (by omega)]; rfl
    refine if_pick (m < ((max 1 b.now.length : Nat) : Int) ∨ 12 < m) (fun z => ?_) (fun z => ?_) (fun k kt kf => ?_)
    · exact raise1 (fun k h => h) fun H' d s hd => qe z _ _ s hd
    · refine ⟨_, rfl, _, rfl, x, C, dx, _, rfl, h1, T.cls, T.nt, (by show 7 < 1000; decide), ?_⟩
      have k1 : ∀ c o, c ≠ x → H c = some o → upd H x (.ins C dx (putF "most" (.int m) [("alphabet", tx b.gs), ("entries", V.ref D), ("past", V.ref P), ("ahead", V.ref A), ("kept", V.ref KD), ("many_compiled", V.int n), ("most", iv b.most)])) c = some o := fun c o nc e => by rw [upd_ne nc]; exact e
      have x1 : ∀ {c o}, H c = some o → (∀ C dx fs, o ≠ .ins C dx fs) → c ≠ x := fun {c o} e n z => by rw [z, h1] at e; cases e; exact n _ _ _ rfl
      have kd : ∀ c kvs, H c = some (.dK kvs) → upd H x (.ins C dx (putF "most" (.int m) [("alphabet", tx b.gs), ("entries", V.ref D), ("past", V.ref P), ("ahead", V.ref A), ("kept", V.ref KD), ("many_compiled", V.int n), ("most", iv b.most)])) c = some (.dK kvs) := fun c kvs e => k1 _ _ (x1 e fun _ _ _ z => nomatch z) e
      have kt : ∀ c xs, H c = some (.tup xs) → upd H x (.ins C dx (putF "most" (.int m) [("alphabet", tx b.gs), ("entries", V.ref D), ("past", V.ref P), ("ahead", V.ref A), ("kept", V.ref KD), ("many_compiled", V.int n), ("most", iv b.most)])) c = some (.tup xs) := fun c xs e => k1 _ _ (x1 e fun _ _ _ z => nomatch z) e
      obtain ⟨vs, hP1, hP2⟩ := hP
      obtain ⟨ws, hA1, hA2⟩ := hA
      refine q (by omega) (by omega) _ k1 ⟨⟨dx, D, KD, n, ?_, ⟨kvs, kd _ _ hD, esR_keep kt hR⟩⟩, ⟨vs, k1 _ _ (x1 hP1 fun _ _ _ z => nomatch z) hP1, Paired.mapP hP2 fun _ _ z => z.keep kd kt⟩, ⟨ws, k1 _ _ (x1 hA1 fun _ _ _ z => nomatch z) hA1, Paired.mapP hA2 fun _ _ z => z.keep kd kt⟩, ne⟩
      rw [upd_same]
      show some (HO.ins C dx [("alphabet", tx b.gs), ("entries", V.ref D), ("past", V.ref P), ("ahead", V.ref A), ("kept", V.ref KD), ("many_compiled", V.int n), ("most", .int m)]) = some (HO.ins C dx [("alphabet", tx b.gs), ("entries", V.ref D), ("past", V.ref P), ("ahead", V.ref A), ("kept", V.ref KD), ("many_compiled", V.int n), ("most", .int ((m.toNat : Nat) : Int))])
      rw [Int.toNat_of_nonneg (by omega)]
    · refine ⟨_, rfl, x, C, dx, _, _, rfl, h1, T.cls, T.ne, rfl, D, kvs, rfl, hD, _, _, rfl, ?_⟩
      rw [hmx]
      refine ⟨_, rfl, _, _, rfl, rfl, _, rfl, ?_⟩
      by_cases c1 : ((max 1 b.now.length : Nat) : Int) ≤ m
      · rw [decide_eq_true c1]
        refine iteT ⟨_, _, rfl, rfl, _, rfl, ?_⟩
        by_cases c2 : m ≤ 12
        · rw [decide_eq_true c2]
          exact kf (by omega)
        · rw [decide_eq_false c2]
          exact kt (by omega)
      · rw [decide_eq_false c1]
        refine iteF ⟨_, rfl, ?_⟩
        exact kt (by omega)
end
end Own

namespace Own
open PySem PySem.Spec PyProof.Rows L2 SX RZ
section
variable {P : Program} {w : World} {K : PySem.W.Frag} {mg : Str → Option Value} {base : Heap}
/-! a new book -/
def spBkI (C CL CI : Addr) : Sp := fun vs H Q E => ∃ (x dx : Addr) (cs : List Nat) (m : Int), vs = [.ref x, tx cs, .int m] ∧ H x = some (.ins C dx []) ∧ cs.length ≤ 900 ∧
  (Valid cs → 1 ≤ m → m ≤ 12 → ∀ H' P A, (∀ c o, c ≠ x → H c = some o → H' c = some o) → H P = none → H A = none → P ≠ x → A ≠ x → BkH H' C x P A ⟨cs, m.toNat, [], [], []⟩ → Q .non H') ∧
  (Valid cs → (m < 1 ∨ 12 < m) → ∀ H' d, (∀ c o, c ≠ x → H c = some o → H' c = some o) → H' d = some (lrXd 12) → E (.ref CL) (some d) H') ∧
  (¬ Valid cs → ∀ H' d, Same H H' → H' d = some (.xd [("code", .str "InvalidLetters")]) → E (.ref CI) (some d) H')
abbrev sBkI : Stmt := BkM 0
theorem scBkI : FnScope ["self", "letters", "capacity"] ["self", "letters", "capacity"] (defScope sBkI) := ⟨rfl, rfl, rfl, by decide +kernel, rfl, by decide +kernel, by decide +kernel⟩
theorem ok_bki {f f1 f2 C CL CI : Addr} {fd fd1 fd2 : FuncData} (F : FunD K "__init__" "Book.__init__" (defArgs sBkI) (defBody sBkI) (defScope sBkI) [] [("capacity", .int 12)] f fd) (T : BkC K C)
    (G1 : FnOk P w K mg base (L2.CX P w) 3 f1 fd1 ["letters"] (spCL CI)) (g1 : mg "check_letters" = some (.ref f1)) (k1 : PySem.W.keepIn K (.ref f1) = true) (b1 : Binds K fd1 ["letters"] [])
    (mS : Meth K C "set_capacity" f2) (G2 : FnOk P w K mg base (L2.CX P w) 3 f2 fd2 ["self", "most"] (spSc C CL)) (b2 : Binds K fd2 ["self", "most"] []) :
    FnOk P w K mg base (L2.CX P w) 4 f fd ["self", "letters", "capacity"] (spBkI C CL CI) := by
  refine F.ok (CX := L2.CX P w) scBkI (fun vs H Q E h => ?_) (fun cdv A outer s H vs Q E hr h => ?_)
  · obtain ⟨x, dx, cs, m, rfl, _⟩ := h
    rfl
  · obtain ⟨x, dx, cs, m, rfl, hx, hl, q, qe, qi⟩ := h
    refine ⟨_, pss_cons (ps_expr (pe_call G1 (hr.mono (by decide)) (by rfl) g1 k1 b1 .nil (passes_call (takes_of rfl rfl rfl rfl) (fun _ _ _ _ h => h)) (pa_cons (pv 1) pa_nil)))
      (pss_cons (ps_fld (pv 0) (pv 1) (by rfl)) (pss_cons (ps_fld (pv 0) pe_dnewK (by rfl)) (pss_cons (ps_fld (pv 0) (pe_lst pa_nil) (by rfl)) (pss_cons (ps_fld (pv 0) (pe_lst pa_nil) (by rfl)) (pss_cons (ps_fld (pv 0) pe_dnewK (by rfl))
      (pss_cons (ps_fld (pv 0) pe_int (by rfl)) (pss_cons (ps_fld (pv 0) pe_int (by rfl))
      (pss_one (ps_expr (pe_meth (pv 0) T.cls mS G2 (hr.mono (by decide)) b2 .nil (passes_call (takes_of rfl rfl rfl rfl) (fun _ _ _ _ h => h)) (pa_cons (pv 2) pa_nil))))))))))), ?_⟩
    refine ⟨_, rfl, cs, rfl, by omega, fun hv H1 s1 => ?_, fun hv H1 d s1 hd => qi hv _ _ s1 hd⟩
    have ch : ∀ {Ha Hb : Hp} {o : HO}, (∀ c o, c ≠ x → H c = some o → Ha c = some o) → Hb = upd Ha x o → ∀ c o, c ≠ x → H c = some o → Hb c = some o := fun k e c o nc z => by rw [e, upd_ne nc]; exact k _ _ nc z
    have nw : ∀ {Ha : Hp} {D : Addr} {o : HO}, (∀ c o, c ≠ x → H c = some o → Ha c = some o) → Ha D = none → ∀ c o', c ≠ x → H c = some o' → upd Ha D o c = some o' := fun k e c o nc z => by rw [upd_ne (fun q => by rw [q] at z nc; rw [k _ _ nc z] at e; cases e)]; exact k _ _ nc z
    have no : ∀ {Ha : Hp} {D : Addr} {o : HO}, (∀ c o, c ≠ x → H c = some o → Ha c = some o) → Ha x = some o → Ha D = none → H D = none ∧ D ≠ x := fun {Ha D o} k hx e => by
      have nx : D ≠ x := fun z => by rw [z, hx] at e; cases e
      refine ⟨?_, nx⟩
      cases z : H D with
      | none => rfl
      | some o => rw [k _ _ nx z] at e; cases e
    have k1 : ∀ c o, c ≠ x → H c = some o → H1 c = some o := fun c o _ e => s1 _ _ e
    have x1 := s1 _ _ hx
    refine ⟨_, rfl, _, rfl, x, C, dx, _, rfl, x1, T.cls, T.na, (by show 0 < 1000; decide), ?_⟩
    obtain ⟨H2, e2⟩ : ∃ H2, H2 = upd H1 x (.ins C dx (putF "alphabet" (tx cs) [])) := ⟨_, rfl⟩
    have k2 := ch k1 e2
    have x2 : H2 x = some (.ins C dx [("alphabet", tx cs)]) := by rw [e2, upd_same]; rfl
    dsimp only [tSeq]
    rw [← e2]
    refine fun D nD => ?_
    obtain ⟨D0, Dx⟩ := no k2 x2 nD
    refine ⟨_, rfl, x, C, dx, _, rfl, by rw [upd_ne Dx.symm]; exact x2, T.cls, T.ne, (by show 1 < 1000; decide), ?_⟩
    obtain ⟨H3, e3⟩ : ∃ H3, H3 = upd (upd H2 D (.dK [])) x (.ins C dx (putF "entries" (.ref D) [("alphabet", tx cs)])) := ⟨_, rfl⟩
    have k3 := ch (nw (o := .dK []) k2 nD) e3
    have x3 : H3 x = some (.ins C dx [("alphabet", tx cs), ("entries", .ref D)]) := by rw [e3, upd_same]; rfl
    have D3 : H3 D = some (.dK []) := by rw [e3, upd_ne Dx, upd_same]
    dsimp only [tSeq]
    rw [← e3]
    refine ⟨Nat.zero_le _, fun PP nP => ?_⟩
    obtain ⟨P0, Px⟩ := no k3 x3 nP
    refine ⟨_, rfl, x, C, dx, _, rfl, by rw [upd_ne Px.symm]; exact x3, T.cls, T.np, (by show 2 < 1000; decide), ?_⟩
    obtain ⟨H4, e4⟩ : ∃ H4, H4 = upd (upd H3 PP (.lst [])) x (.ins C dx (putF "past" (.ref PP) [("alphabet", tx cs), ("entries", .ref D)])) := ⟨_, rfl⟩
    have k4 := ch (nw (o := .lst []) k3 nP) e4
    have x4 : H4 x = some (.ins C dx [("alphabet", tx cs), ("entries", .ref D), ("past", .ref PP)]) := by rw [e4, upd_same]; rfl
    have DP : D ≠ PP := fun z => by rw [← z, D3] at nP; cases nP
    have D4 : H4 D = some (.dK []) := by rw [e4, upd_ne Dx, upd_ne DP]; exact D3
    have P4 : H4 PP = some (.lst []) := by rw [e4, upd_ne Px, upd_same]
    dsimp only [tSeq]
    rw [← e4]
    refine ⟨Nat.zero_le _, fun A nA => ?_⟩
    obtain ⟨A0, Ax⟩ := no k4 x4 nA
    refine ⟨_, rfl, x, C, dx, _, rfl, by rw [upd_ne Ax.symm]; exact x4, T.cls, T.nh, (by show 3 < 1000; decide), ?_⟩
    obtain ⟨H5, e5⟩ : ∃ H5, H5 = upd (upd H4 A (.lst [])) x (.ins C dx (putF "ahead" (.ref A) [("alphabet", tx cs), ("entries", .ref D), ("past", .ref PP)])) := ⟨_, rfl⟩
    have k5 := ch (nw (o := .lst []) k4 nA) e5
    have x5 : H5 x = some (.ins C dx [("alphabet", tx cs), ("entries", .ref D), ("past", .ref PP), ("ahead", .ref A)]) := by rw [e5, upd_same]; rfl
    have DA : D ≠ A := fun z => by rw [← z, D4] at nA; cases nA
    have PA' : PP ≠ A := fun z => by rw [← z, P4] at nA; cases nA
    have D5 : H5 D = some (.dK []) := by rw [e5, upd_ne Dx, upd_ne DA]; exact D4
    have P5 : H5 PP = some (.lst []) := by rw [e5, upd_ne Px, upd_ne PA']; exact P4
    have A5 : H5 A = some (.lst []) := by rw [e5, upd_ne Ax, upd_same]
    dsimp only [tSeq]
    rw [← e5]
    refine fun KD nK => ?_
    obtain ⟨K0, Kx⟩ := no k5 x5 nK
    have ne5 : ∀ {b o}, H5 b = some o → b ≠ KD := fun e z => by rw [z, nK] at e; cases e
    refine ⟨_, rfl, x, C, dx, _, rfl, by rw [upd_ne Kx.symm]; exact x5, T.cls, T.nk, (by show 4 < 1000; decide), ?_⟩
    refine ⟨_, rfl, x, C, dx, _, rfl, upd_same, T.cls, T.nm, (by show 5 < 1000; decide), ?_⟩
    refine ⟨_, rfl, x, C, dx, _, rfl, upd_same, T.cls, T.nt, (by show 6 < 1000; decide), ?_⟩
    dsimp only [tSeq]
    have up : ∀ (G : Hp) (o1 o2 o3 : HO) (b : Addr), b ≠ x → upd (upd (upd G x o1) x o2) x o3 b = G b := fun G o1 o2 o3 b nb => by rw [upd_ne nb, upd_ne nb, upd_ne nb]
    obtain ⟨H6, e6⟩ : ∃ H6, H6 = upd (upd (upd (upd H5 KD (.dK [])) x (.ins C dx (putF "kept" (.ref KD) [("alphabet", tx cs), ("entries", .ref D), ("past", .ref PP), ("ahead", .ref A)]))) x (.ins C dx (putF "many_compiled" (.int 0) (putF "kept" (.ref KD) [("alphabet", tx cs), ("entries", .ref D), ("past", .ref PP), ("ahead", .ref A)])))) x
      (.ins C dx (putF "most" (.int 0) (putF "many_compiled" (.int 0) (putF "kept" (.ref KD) [("alphabet", tx cs), ("entries", .ref D), ("past", .ref PP), ("ahead", .ref A)])))) := ⟨_, rfl⟩
    rw [← e6]
    have k6 : ∀ c o, c ≠ x → H c = some o → H6 c = some o := fun c o nc z => by
      rw [e6, up _ _ _ _ _ nc]
      exact nw (o := .dK []) k5 nK c o nc z
    have g6 : ∀ b o, b ≠ x → H5 b = some o → H6 b = some o := fun b o nb e => by rw [e6, up _ _ _ _ _ nb, upd_ne (ne5 e)]; exact e
    have B6 : BkH H6 C x PP A ⟨cs, 0, [], [], []⟩ := ⟨⟨dx, D, KD, 0, by rw [e6, upd_same]; rfl, [], g6 _ _ Dx D5, .nil⟩, ⟨[], g6 _ _ Px P5, .nil⟩, ⟨[], g6 _ _ Ax A5, .nil⟩, PA'⟩
    have x6 : ∃ fs, H6 x = some (.ins C dx fs) := ⟨_, by rw [e6, upd_same]⟩
    obtain ⟨fs6, x6⟩ := x6
    have hlk : fs6.lookup ("set_capacity" : Str) = none := by
      rw [e6, upd_same] at x6
      cases x6
      rfl
    refine ⟨_, rfl, x, dx, fs6, rfl, x6, hlk, _, rfl, x, PP, A, _, m, rfl, B6, fun z1 z2 H7 k7 B7 => ?_, fun z H7 d s7 hd => ?_⟩
    · exact q hv z1 z2 H7 PP A (fun c o nc e => k7 _ _ nc (k6 _ _ nc e)) P0 A0 Px Ax B7
    · exact qe hv z H7 d (fun c o nc e => s7 _ _ (k6 _ _ nc e)) hd
theorem bki_def {f : Addr} {fd : FuncData} (F : FunD K "__init__" "Book.__init__" (defArgs sBkI) (defBody sBkI) (defScope sBkI) [] [("capacity", .int 12)] f fd) : ∃ ds, Vals [V.int 12] ds ∧ Binds K fd ["self", "letters", "capacity"] ds :=
  F.binds0 2 (by simp) rfl fun D doc pm an cdv ct us ks h1 h2 => match us, ks, h1, h2 with
    | [_, _], [_], _, _ => ⟨_, _, _, _, _, _, rfl, rfl, rfl⟩
abbrev onC {α : Type} (us ws : List α) : List α := us ++ ws
theorem kb_bki {f : Addr} {fd : FuncData} (F : FunD K "__init__" "Book.__init__" (defArgs sBkI) (defBody sBkI) (defScope sBkI) [] [("capacity", .int 12)] f fd) : KBn K fd ["self", "letters", "capacity"] 2 ["capacity"] onC onC := by
  refine ⟨fun s us ws _ h1 h2 => ?_, fun r z => r.append z⟩
  obtain ⟨oc, od, dV, kV, doc, pm, an, cdv, ct, osl, rfl, lk, hcd, hD, hK⟩ := F.ex
  rcases hD with ⟨_, rfl⟩ | ⟨e, _⟩
  · match us, ws, h1, h2 with
    | [a, b], [c], _, _ => exact .of_eq rfl
  · exact absurd rfl e
end
end Own

namespace Own
open PySem PySem.Spec PyProof.Rows L2 SX RZ
section
variable {P : Program} {w : World} {K : PySem.W.Frag} {mg : Str → Option Value} {base : Heap}
/-! capacity, apply, undo, redo, history, len -/
def spCap (C : Addr) : Sp := fun vs H Q _ => ∃ (x P A : Addr) (b : Bk), vs = [.ref x] ∧ BkH H C x P A b ∧ Q (iv b.most) H
abbrev sCap : Stmt := BkM 2
theorem scCap : FnScope ["self"] ["self"] (defScope sCap) := ⟨rfl, rfl, rfl, by decide +kernel, rfl, by decide +kernel, by decide +kernel⟩
theorem ok_cap {f C : Addr} {fd : FuncData} (F : Fun K "capacity" "Book.capacity" sCap f fd) (T : BkC K C) : FnOk P w K mg base CX0 1 f fd ["self"] (spCap C) := by
  refine F.ok scCap (fun vs H Q E h => ?_) (fun cdv A outer s H vs Q E hr h => ?_)
  · obtain ⟨x, P, A, b, rfl, _⟩ := h
    rfl
  · obtain ⟨x, P, A, b, rfl, hB, q⟩ := h
    obtain ⟨⟨dx, D, KD, n, h1, _⟩, _⟩ := hB
    refine ⟨_, pss_one (ps_ret (pe_fld (pv 0) (by rfl))), ?_⟩
    exact ⟨_, rfl, x, C, dx, _, _, rfl, h1, T.cls, T.nt, rfl, q⟩
def spBln (C : Addr) : Sp := fun vs H Q _ => ∃ (x P A : Addr) (b : Bk), vs = [.ref x] ∧ BkH H C x P A b ∧ Q (iv b.now.length) H
abbrev sBln : Stmt := BkM 21
theorem scBln : FnScope ["self"] ["self"] (defScope sBln) := ⟨rfl, rfl, rfl, by decide +kernel, rfl, by decide +kernel, by decide +kernel⟩
theorem ok_bln {f C : Addr} {fd : FuncData} (F : Fun K "__len__" "Book.__len__" sBln f fd) (T : BkC K C) (m_len : mg "len" = none) : FnOk P w K mg base CX0 1 f fd ["self"] (spBln C) := by
  refine F.ok scBln (fun vs H Q E h => ?_) (fun cdv A outer s H vs Q E hr h => ?_)
  · obtain ⟨x, P, A, b, rfl, _⟩ := h
    rfl
  · obtain ⟨x, P, A, b, rfl, hB, q⟩ := h
    obtain ⟨⟨dx, D, KD, n, h1, kvs, hD, hR⟩, _⟩ := hB
    refine ⟨_, pss_one (ps_ret (pe_callB call_lenD (by rfl) m_len PySem.boot_len (pa_cons (pe_fld (pv 0) (by rfl)) pa_nil))), ?_⟩
    refine ⟨_, rfl, x, C, dx, _, _, rfl, h1, T.cls, T.ne, rfl, D, kvs, rfl, hD, ?_⟩
    rw [← Paired.length hR]
    exact q
def spBhi (C : Addr) : Sp := fun vs H Q _ => ∃ (x P A : Addr) (b : Bk), vs = [.ref x] ∧ BkH H C x P A b ∧ ∀ H' T, Same H H' → H T = none → H' T = some (.tup [iv b.past.length, iv b.ahead.length]) → Q (.ref T) H'
abbrev sBhi : Stmt := BkM 9
theorem scBhi : FnScope ["self"] ["self"] (defScope sBhi) := ⟨rfl, rfl, rfl, by decide +kernel, rfl, by decide +kernel, by decide +kernel⟩
theorem ok_bhi {f C : Addr} {fd : FuncData} (F : Fun K "history" "Book.history" sBhi f fd) (T : BkC K C) (m_len : mg "len" = none) : FnOk P w K mg base CX0 1 f fd ["self"] (spBhi C) := by
  refine F.ok scBhi (fun vs H Q E h => ?_) (fun cdv A outer s H vs Q E hr h => ?_)
  · obtain ⟨x, P, A, b, rfl, _⟩ := h
    rfl
  · obtain ⟨x, P, A, b, rfl, hB, q⟩ := h
    obtain ⟨⟨dx, D, KD, n, h1, _⟩, ⟨vs, hP, hP2⟩, ⟨ws, hA, hA2⟩, _⟩ := hB
    refine ⟨_, pss_one (ps_ret (pe_tup (pa_cons (pe_callB call_len_seq (by rfl) m_len PySem.boot_len (pa_cons (pe_fld (pv 0) (by rfl)) pa_nil)) (pa_cons (pe_callB call_len_seq (by rfl) m_len PySem.boot_len (pa_cons (pe_fld (pv 0) (by rfl)) pa_nil)) pa_nil)))), ?_⟩
    refine ⟨_, rfl, x, C, dx, _, _, rfl, h1, T.cls, T.np, rfl, P, vs, rfl, .inl (sqL hP), _, rfl, x, C, dx, _, _, rfl, h1, T.cls, T.nh, rfl, A, ws, rfl, .inl (sqL hA), (by show 2 ≤ sizeLine; decide), fun U nU => ?_⟩
    refine q _ U (same_new nU) nU ?_
    rw [upd_same, Paired.length hP2, Paired.length hA2]
/-- the book's things stand apart -/
theorem BkH.apart {H : Hp} {C x P A : Addr} {b : Bk} (h : BkH H C x P A b) : x ≠ P ∧ x ≠ A ∧ P ≠ A := by
  obtain ⟨⟨dx, D, KD, n, h1, _⟩, ⟨vs, hP, _⟩, ⟨ws, hA, _⟩, ne⟩ := h
  exact ⟨fun z => (by rw [z, hP] at h1; cases h1), fun z => (by rw [z, hA] at h1; cases h1), ne⟩
theorem ChgB.dK {H H' : Hp} {C x P A : Addr} {b : Bk} (h : BkH H C x P A b) (k : ChgB H H' x P A) : ∀ c kvs, H c = some (.dK kvs) → H' c = some (.dK kvs) := fun c kvs e => by
  obtain ⟨⟨dx, D, KD, n, h1, _⟩, ⟨vs, hP, _⟩, ⟨ws, hA, _⟩, ne⟩ := h
  exact k _ _ (fun z => by rw [z, h1] at e; cases e) (fun z => by rw [z, hP] at e; cases e) (fun z => by rw [z, hA] at e; cases e) e
theorem ChgB.tup {H H' : Hp} {C x P A : Addr} {b : Bk} (h : BkH H C x P A b) (k : ChgB H H' x P A) : ∀ c xs, H c = some (.tup xs) → H' c = some (.tup xs) := fun c kvs e => by
  obtain ⟨⟨dx, D, KD, n, h1, _⟩, ⟨vs, hP, _⟩, ⟨ws, hA, _⟩, ne⟩ := h
  exact k _ _ (fun z => by rw [z, h1] at e; cases e) (fun z => by rw [z, hP] at e; cases e) (fun z => by rw [z, hA] at e; cases e) e
theorem paired_last {α β : Type} {F : α → β → Prop} : ∀ {as : List α} {a : α} {bs : List β}, Paired F (as ++ [a]) bs → ∃ ys y, bs = ys ++ [y] ∧ Paired F as ys ∧ F a y
  | [], a, _, .cons h .nil => ⟨[], _, rfl, .nil, h⟩
  | x :: as, a, _, .cons h t => by
    obtain ⟨ys, y, e, p, q⟩ := paired_last (as := as) t
    subst e
    exact ⟨_ :: ys, y, rfl, .cons h p, q⟩
/-! undo; redo -/
def spUnd (C : Addr) : Sp := fun vs H Q _ => ∃ (x P A : Addr) (b : Bk) (ini : List Es) (las : Es), vs = [.ref x] ∧ BkH H C x P A b ∧ b.past = ini ++ [las] ∧ b.past.length ≤ 1000 ∧ b.ahead.length ≤ 1000 ∧
  ∀ H', ChgB H H' x P A → BkH H' C x P A { b with now := las, past := ini, ahead := b.ahead ++ [b.now] } → Q .non H'
abbrev sUnd : Stmt := BkM 7
theorem scUnd : FnScope ["self"] ["self"] (defScope sUnd) := ⟨rfl, rfl, rfl, by decide +kernel, rfl, by decide +kernel, by decide +kernel⟩
def spRed (C : Addr) : Sp := fun vs H Q _ => ∃ (x P A : Addr) (b : Bk) (ini : List Es) (las : Es), vs = [.ref x] ∧ BkH H C x P A b ∧ b.ahead = ini ++ [las] ∧ b.past.length ≤ 1000 ∧ b.ahead.length ≤ 1000 ∧
  ∀ H', ChgB H H' x P A → BkH H' C x P A { b with now := las, ahead := ini, past := b.past ++ [b.now] } → Q .non H'
abbrev sRed : Stmt := BkM 8
theorem scRed : FnScope ["self"] ["self"] (defScope sRed) := ⟨rfl, rfl, rfl, by decide +kernel, rfl, by decide +kernel, by decide +kernel⟩
/-- one step is moved from one list to the other -/
theorem bk_move {H : Hp} {C x P A dx D KD : Addr} {n : Int} {gs : List Nat} {most : Nat} {now las : Es} {ini ahead : List Es} {vs ws : List V} {v : V} (h1 : H x = some (.ins C dx [("alphabet", tx gs), ("entries", .ref D), ("past", .ref P), ("ahead", .ref A), ("kept", .ref KD), ("many_compiled", .int n), ("most", iv most)])) (hD : EsH H D now)
    (hP : H P = some (.lst (vs ++ [v]))) (hv : Paired (EsL H) ini vs) (hl : EsL H las v) (hA : H A = some (.lst ws)) (hw : Paired (EsL H) ahead ws) (ne : P ≠ A) :
    ∃ D2, v = .ref D2 ∧ ∀ H', H' = upd (upd (upd H A (.lst (ws ++ [.ref D]))) P (.lst vs)) x (.ins C dx [("alphabet", tx gs), ("entries", .ref D2), ("past", .ref P), ("ahead", .ref A), ("kept", .ref KD), ("many_compiled", .int n), ("most", iv most)]) →
      ChgB H H' x P A ∧ (∃ dx D KD n, H' x = some (.ins C dx [("alphabet", tx gs), ("entries", .ref D), ("past", .ref P), ("ahead", .ref A), ("kept", .ref KD), ("many_compiled", .int n), ("most", iv most)]) ∧ EsH H' D las) ∧ (∃ vs, H' P = some (.lst vs) ∧ Paired (EsL H') ini vs) ∧ (∃ vs, H' A = some (.lst vs) ∧ Paired (EsL H') (ahead ++ [now]) vs) := by
  obtain ⟨D2, rfl, h2⟩ := id hl
  refine ⟨D2, rfl, fun H' e => ?_⟩
  have xP : x ≠ P := fun z => by rw [z, hP] at h1; cases h1
  have xA : x ≠ A := fun z => by rw [z, hA] at h1; cases h1
  have k : ChgB H H' x P A := fun c o n1 n2 n3 z => by rw [e, upd_ne n1, upd_ne n2, upd_ne n3]; exact z
  have kd : ∀ c kvs, H c = some (.dK kvs) → H' c = some (.dK kvs) := fun c kvs e => k _ _ (fun z => by rw [z, h1] at e; cases e) (fun z => by rw [z, hP] at e; cases e) (fun z => by rw [z, hA] at e; cases e) e
  have kt : ∀ c xs, H c = some (.tup xs) → H' c = some (.tup xs) := fun c kvs e => k _ _ (fun z => by rw [z, h1] at e; cases e) (fun z => by rw [z, hP] at e; cases e) (fun z => by rw [z, hA] at e; cases e) e
  refine ⟨k, ⟨dx, D2, KD, n, by rw [e, upd_same], h2.keep kd kt⟩, ⟨vs, by rw [e, upd_ne xP.symm, upd_same], Paired.mapP hv fun _ _ z => z.keep kd kt⟩, ⟨ws ++ [.ref D], by rw [e, upd_ne xA.symm, upd_ne ne.symm, upd_same], ?_⟩⟩
  exact paired_appN (Paired.mapP hw fun _ _ z => z.keep kd kt) (.cons ⟨D, rfl, hD.keep kd kt⟩ .nil)
theorem ok_und {f C : Addr} {fd : FuncData} (F : Fun K "undo" "Book.undo" sUnd f fd) (T : BkC K C) (m_len : mg "len" = none) : FnOk P w K mg base CX0 1 f fd ["self"] (spUnd C) := by
  refine F.ok scUnd (fun vs H Q E h => ?_) (fun cdv A outer s H vs Q E hr h => ?_)
  · obtain ⟨x, P, A, b, ini, las, rfl, _⟩ := h
    rfl
  · obtain ⟨x, P, A, b, ini, las, rfl, hB, hp, hl1, hl2, q⟩ := h
    obtain ⟨⟨dx, D, KD, n, h1, hD⟩, ⟨vs, hP, hP2⟩, ⟨ws, hA, hA2⟩, ne⟩ := id hB
    rw [hp] at hP2
    have hvl := Paired.length hP2
    have hwl := Paired.length hA2
    obtain ⟨us, y, rfl, hu, hy⟩ := paired_last hP2
    obtain ⟨D2, rfl, hm⟩ := bk_move h1 hD hP hu hy hA hA2 ne
    refine ⟨_, pss_cons (ps_if (pt_cmpR op_eq (pe_callB call_len_seq (by rfl) m_len PySem.boot_len (pa_cons (pe_fld (pv 0) (by rfl)) pa_nil)) pe_int (nomark _)) pss_never pss_nil)
      (pss_cons (ps_expr (pe_bm PySem.F.plainAttrs_list PySem.F.slot_list_append PySem.F.type_list_append mt_append (pe_fld (pv 0) (by rfl)) (pa_cons (pe_fld (pv 0) (by rfl)) pa_nil)))
      (pss_one (ps_fld (pv 0) (pe_bm0 PySem.F.plainAttrs_list PySem.F.slot_list_pop PySem.F.type_list_pop mt_pop (pe_fld (pv 0) (by rfl))) (by rfl)))), ?_⟩
    refine ⟨_, rfl, x, C, dx, _, _, rfl, h1, T.cls, T.np, rfl, P, _, rfl, .inl (sqL hP), rfl, _, rfl, ?_⟩
    rw [decide_eq_false (by rw [List.length_append]; show ¬ V.int ((us.length + 1 : Nat) : Int) = V.int 0; exact fun z => by injection z with z; omega)]
    refine iteF ?_
    have xA : x ≠ A := hB.apart.2.1
    refine ⟨_, rfl, x, C, dx, _, _, rfl, h1, T.cls, T.nh, rfl, .inl ⟨rfl, _, sqL hA⟩, _, rfl, x, C, dx, _, _, rfl, h1, T.cls, T.ne, rfl, A, ws, _, rfl, rfl, hA, by rw [← hwl, sizeLine_eq]; omega, ?_⟩
    have h2 : upd H A (.lst (ws ++ [V.ref D])) x = some (.ins C dx [("alphabet", tx b.gs), ("entries", V.ref D), ("past", V.ref P), ("ahead", V.ref A), ("kept", V.ref KD), ("many_compiled", V.int n), ("most", iv b.most)]) := by rw [upd_ne xA]; exact h1
    have hP3 : upd H A (.lst (ws ++ [V.ref D])) P = some (.lst (us ++ [V.ref D2])) := by rw [upd_ne ne]; exact hP
    refine ⟨_, rfl, x, C, dx, _, _, rfl, h2, T.cls, T.np, rfl, .inl ⟨rfl, _, sqL hP3⟩, P, _, _, rfl, rfl, hP3, get_last, ?_⟩
    rw [List.dropLast_concat]
    have h3 : upd (upd H A (.lst (ws ++ [V.ref D]))) P (.lst us) x = some (.ins C dx [("alphabet", tx b.gs), ("entries", V.ref D), ("past", V.ref P), ("ahead", V.ref A), ("kept", V.ref KD), ("many_compiled", V.int n), ("most", iv b.most)]) := by rw [upd_ne hB.apart.1]; exact h2
    refine ⟨_, rfl, x, C, dx, _, rfl, h3, T.cls, T.ne, (by show 7 < 1000; decide), ?_⟩
    obtain ⟨r1, r2, r3, r4⟩ := hm _ rfl
    exact q _ r1 (BkH.mk (b := { b with now := las, past := ini, ahead := b.ahead ++ [b.now] }) r2 r3 r4 ne)
theorem ok_red {f C : Addr} {fd : FuncData} (F : Fun K "redo" "Book.redo" sRed f fd) (T : BkC K C) (m_len : mg "len" = none) : FnOk P w K mg base CX0 1 f fd ["self"] (spRed C) := by
  refine F.ok scRed (fun vs H Q E h => ?_) (fun cdv A outer s H vs Q E hr h => ?_)
  · obtain ⟨x, P, A, b, ini, las, rfl, _⟩ := h
    rfl
  · obtain ⟨x, P, A, b, ini, las, rfl, hB, hp, hl1, hl2, q⟩ := h
    obtain ⟨⟨dx, D, KD, n, h1, hD⟩, ⟨vs, hP, hP2⟩, ⟨ws, hA, hA2⟩, ne⟩ := id hB
    rw [hp] at hA2
    have hvl := Paired.length hP2
    have hwl := Paired.length hA2
    obtain ⟨us, y, rfl, hu, hy⟩ := paired_last hA2
    obtain ⟨D2, rfl, hl2'⟩ := id hy
    refine ⟨_, pss_cons (ps_if (pt_cmpR op_eq (pe_callB call_len_seq (by rfl) m_len PySem.boot_len (pa_cons (pe_fld (pv 0) (by rfl)) pa_nil)) pe_int (nomark _)) pss_never pss_nil)
      (pss_cons (ps_expr (pe_bm PySem.F.plainAttrs_list PySem.F.slot_list_append PySem.F.type_list_append mt_append (pe_fld (pv 0) (by rfl)) (pa_cons (pe_fld (pv 0) (by rfl)) pa_nil)))
      (pss_one (ps_fld (pv 0) (pe_bm0 PySem.F.plainAttrs_list PySem.F.slot_list_pop PySem.F.type_list_pop mt_pop (pe_fld (pv 0) (by rfl))) (by rfl)))), ?_⟩
    refine ⟨_, rfl, x, C, dx, _, _, rfl, h1, T.cls, T.nh, rfl, A, _, rfl, .inl (sqL hA), rfl, _, rfl, ?_⟩
    rw [decide_eq_false (by rw [List.length_append]; show ¬ V.int ((us.length + 1 : Nat) : Int) = V.int 0; exact fun z => by injection z with z; omega)]
    refine iteF ?_
    have xA : x ≠ A := hB.apart.2.1
    have xP : x ≠ P := hB.apart.1
    refine ⟨_, rfl, x, C, dx, _, _, rfl, h1, T.cls, T.np, rfl, .inl ⟨rfl, _, sqL hP⟩, _, rfl, x, C, dx, _, _, rfl, h1, T.cls, T.ne, rfl, P, vs, _, rfl, rfl, hP, by rw [← hvl, sizeLine_eq]; omega, ?_⟩
    have h2 : upd H P (.lst (vs ++ [V.ref D])) x = some (.ins C dx [("alphabet", tx b.gs), ("entries", V.ref D), ("past", V.ref P), ("ahead", V.ref A), ("kept", V.ref KD), ("many_compiled", V.int n), ("most", iv b.most)]) := by rw [upd_ne xP]; exact h1
    have hA3 : upd H P (.lst (vs ++ [V.ref D])) A = some (.lst (us ++ [V.ref D2])) := by rw [upd_ne ne.symm]; exact hA
    refine ⟨_, rfl, x, C, dx, _, _, rfl, h2, T.cls, T.nh, rfl, .inl ⟨rfl, _, sqL hA3⟩, A, _, _, rfl, rfl, hA3, get_last, ?_⟩
    rw [List.dropLast_concat]
    have h3 : upd (upd H P (.lst (vs ++ [V.ref D]))) A (.lst us) x = some (.ins C dx [("alphabet", tx b.gs), ("entries", V.ref D), ("past", V.ref P), ("ahead", V.ref A), ("kept", V.ref KD), ("many_compiled", V.int n), ("most", iv b.most)]) := by rw [upd_ne xA]; exact h2
    refine ⟨_, rfl, x, C, dx, _, rfl, h3, T.cls, T.ne, (by show 7 < 1000; decide), ?_⟩
    have k : ∀ c o, c ≠ x → c ≠ P → c ≠ A → H c = some o → upd (upd (upd H P (.lst (vs ++ [V.ref D]))) A (.lst us)) x (.ins C dx [("alphabet", tx b.gs), ("entries", V.ref D2), ("past", V.ref P), ("ahead", V.ref A), ("kept", V.ref KD), ("many_compiled", V.int n), ("most", iv b.most)]) c = some o := fun c o n1 n2 n3 z => by rw [upd_ne n1, upd_ne n3, upd_ne n2]; exact z
    have kB : ChgB H (upd (upd (upd H P (.lst (vs ++ [V.ref D]))) A (.lst us)) x (.ins C dx [("alphabet", tx b.gs), ("entries", V.ref D2), ("past", V.ref P), ("ahead", V.ref A), ("kept", V.ref KD), ("many_compiled", V.int n), ("most", iv b.most)])) x P A := k
    have kd := ChgB.dK hB kB
    have kt := ChgB.tup hB kB
    refine q _ kB ⟨⟨dx, D2, KD, n, upd_same, hl2'.keep kd kt⟩, ⟨vs ++ [V.ref D], by rw [upd_ne xP.symm, upd_ne ne, upd_same], paired_appN (Paired.mapP hP2 fun _ _ z => z.keep kd kt) (.cons ⟨D, rfl, hD.keep kd kt⟩ .nil)⟩, ⟨us, by rw [upd_ne xA.symm, upd_same], Paired.mapP hu fun _ _ z => z.keep kd kt⟩, ne⟩
end
end Own

namespace Own
open PySem PySem.Spec PyProof.Rows L2 SX RZ
section
variable {P : Program} {w : World} {K : PySem.W.Frag} {mg : Str → Option Value} {base : Heap}
/-! apply, with one command that adds or changes a name -/
def spAp1 (C CL : Addr) : Sp := fun vs H Q E => ∃ (x P A T c : Addr) (b : Bk) (n t : List Nat) (e : Mng), vs = [.ref x, .ref T] ∧ H T = some (.tup [.ref c]) ∧ BkH H C x P A b ∧ Good b.gs ∧ b.now.length ≤ 1000 ∧ b.past.length ≤ 1000 ∧ H c = some (.tup [.str e.kind, tx n, tx t]) ∧ OkN n ∧ MnTx b.gs e t ∧ t.length ≤ 100000 ∧ MngSz e ∧ NoNm e ∧
  (∀ e', lookE b.now n = some e' → e'.kind = e.kind) ∧
  ((lookE b.now n ≠ none ∨ b.now.length < b.most) → ∀ H' A', (∀ d o, d ≠ x → d ≠ P → H d = some o → H' d = some o) → H A' = none → BkH H' C x P A' { b with now := putE b.now n e, past := b.past ++ [b.now], ahead := [] } → Q .non H') ∧
  (lookE b.now n = none → b.most ≤ b.now.length → ∀ H' d, Same H H' → H' d = some (lrXd b.most) → E (.ref CL) (some d) H')
abbrev sApl : Stmt := BkM 6
abbrev aplN : List Str := ["self", "commands", "entries", "command"]
theorem scApl : FnScope aplN (([("self" : Str)] : List Str) ++ [("commands" : Str)]) (defScope sApl) := ⟨rfl, rfl, rfl, by decide +kernel, rfl, by decide +kernel, by decide +kernel⟩
theorem ok_apl {f f1 f2 C CL CM : Addr} {fd fd1 fd2 : FuncData} (F : Fun K "apply" "Book.apply" sApl f fd) (T : BkC K C) (m_dict : mg "dict" = none)
    (c1 : Cl P w K mg base "check_commands" 1 ["commands"] (spCco K w CM) f1 fd1) (kC : ∀ e : Mng, KDct K w CM e.kind (.int 3))
    (G2 : FnOk P w K mg base (L2.CX P w) 13 f2 fd2 ["letters", "capacity", "entries", "command"] (spDfn0 CL)) (g2 : mg "run_command" = some (.ref f2)) (k2 : PySem.W.keepIn K (.ref f2) = true) (b2 : Binds K fd2 ["letters", "capacity", "entries", "command"] []) :
    FnR P w K mg base (L2.CX P w) 14 f fun vs H Q E => ∃ ws rest, vs = ws ++ rest ∧ ws.length = [("self" : Str)].length ∧ rest.length ≤ PySem.sizeLine ∧ ∀ (p : Addr), H p = none → spAp1 C CL (ws ++ [V.ref p]) (upd H p (.tup rest)) Q E := by
  obtain ⟨oc, od, kV, doc, pm, an, cdv, ct, osl, rfl, lk, hcd⟩ := F.ex
  refine StX.fn_star (ps := ["self"]) (pv := "commands") (sp := spAp1 C CL) (k := 13) lk hcd scApl StX.cxUp (StX.bind_star1 (B := fun us => PySem.bindArgs (PySem.W.fnOf "apply" "Book.apply" (defArgs sApl) (defBody sApl) (defScope sApl) .none kV doc pm an cdv ct) { pos := us }) (p1 := "self") (pv := "commands") (fun a => rfl) (fun a r rs => rfl)) (fun A outer s H vs Q E hr h => ?_)
  obtain ⟨x, P, A, T0, c, b, n, t, e, rfl, hT, hB, hg, hnl, hpl, hc, hn, ht, htl, hz, hno, hk, q, qe⟩ := h
  obtain ⟨⟨dx, D, KD, nn, h1, kvs, hD, hR⟩, ⟨vs, hP, hP2⟩, ⟨ws, hA, hA2⟩, ne⟩ := id hB
  refine ⟨_, pss_cons (ps_expr (pe_cl c1 hr (by decide) (by rfl) (pa_cons (pv 1) pa_nil)))
    (pss_cons (ps_set (i := 2) scApl.nd rfl (by first | exact .inl rfl | exact .inr rfl) (pe_callTy call_dictD (by rfl) m_dict (by decide +kernel) (pa_cons (pe_fld (pv 0) (by rfl)) pa_nil)))
    (pss_cons (ps_for (passes_of rfl) rfl (pi_tup (pv 1)) (pg_name (i := 3) scApl.nd rfl (by first | exact .inl rfl | exact .inr rfl))
      (pss_one (ps_expr (pe_call G2 (hr.mono (by decide)) (by rfl) g2 k2 b2 .nil (passes_call (takes_of rfl rfl rfl rfl) (fun _ _ _ _ h => h)) (pa_cons (pe_fld (pv 0) (by rfl)) (pa_cons (pe_fld (pv 0) (by rfl)) (pa_cons (pv 2) (pa_cons (pv 3) pa_nil))))))))
    (pss_cons (ps_expr (pe_bm PySem.F.plainAttrs_list PySem.F.slot_list_append PySem.F.type_list_append mt_append (pe_fld (pv 0) (by rfl)) (pa_cons (pe_fld (pv 0) (by rfl)) pa_nil)))
    (pss_cons (ps_fld (pv 0) (pe_lst pa_nil) (by rfl)) (pss_one (ps_fld (pv 0) (pv 2) (by rfl))))))), ?_⟩
  refine ⟨_, rfl, T0, [.ref c], rfl, hT, (by show 1 ≤ 100; decide), ?_, fun H0 s0 => ?_⟩
  · intro v hv
    rw [List.mem_singleton.mp hv]
    exact ⟨c, _, _, rfl, hc, by show 2 ≤ 10; decide, kC e⟩
  have hD0 := s0 _ _ hD
  dsimp only [tSeq]
  refine ⟨_, rfl, x, C, dx, _, _, rfl, s0 _ _ h1, T.cls, T.ne, rfl, D, kvs, rfl, .inl hD0, fun D2 nD2 => ?_⟩
  obtain ⟨H1, eH1⟩ : ∃ H1, H1 = upd H0 D2 (.dK kvs) := ⟨_, rfl⟩
  rw [← eH1]
  have s1 : Same H H1 := by rw [eH1]; exact s0.trans (same_new nD2)
  have D2n : H D2 = none := none_of s0 nD2
  have e1 : EsH H1 D2 b.now := ⟨kvs, by rw [eH1, upd_same], esR_keep (fun a xs z => s1 _ _ z) hR⟩
  dsimp only [gName, tSeq, tAsg]
  refine ⟨_, rfl, T0, rfl, ⟨_, sqT (s1 _ _ hT)⟩, ?_⟩
  refine for_it (walk_tup (K := K) (a := T0) (xs := [V.ref c])) (fun i σ H' => ∃ v3, σ = [some (.ref x), some (.ref T0), some (.ref D2), v3] ∧ ((i = 0 ∧ H' = H1) ∨ (i = 1 ∧ (lookE b.now n ≠ none ∨ b.now.length < b.most) ∧ (∀ d o, d ≠ D2 → H1 d = some o → H' d = some o) ∧ EsH H' D2 (putE b.now n e))))
    ⟨none, rfl, .inl ⟨rfl, rfl⟩⟩ (fun i σ H' _ h => ?_) ?_ ?_
  · obtain ⟨_, _, ⟨_, rfl⟩ | ⟨_, _, k, _⟩⟩ := h
    · exact sqT (s1 _ _ hT)
    · exact sqT (k _ _ (fun z => by rw [z, D2n] at hT; cases hT) (s1 _ _ hT))
  · rintro i v σ H2 H3 hi ⟨v3, rfl, hst⟩ ⟨rfl, hv⟩
    have i0 : i = 0 := Nat.lt_one_iff.mp hi
    subst i0
    rcases hst with ⟨_, rfl⟩ | ⟨z, _⟩
    rotate_left
    · cases z
    cases hv
    dsimp only [gName, tSeq, tAsg, List.set_cons_zero, List.set_cons_succ]
    refine ⟨_, rfl, x, C, dx, _, _, rfl, s1 _ _ h1, T.cls, T.na, rfl, _, rfl, x, C, dx, _, _, rfl, s1 _ _ h1, T.cls, T.nt, rfl, _, rfl, _, rfl, b.gs, b.most, D2, c, b.now, n, t, e, rfl, hg, e1, hnl, s1 _ _ hc, hn, ht, htl, hz, hno, hk, fun can H3 k3 e3 => ?_, fun z1 z2 H3 d s3 hd => ?_⟩
    · exact ⟨_, rfl, .inr ⟨rfl, can, k3, e3⟩⟩
    · exact qe z1 z2 _ _ (s1.trans s3) hd
  · rintro σ H2 ⟨v3, rfl, ⟨z, _⟩ | ⟨_, can, k2, e2⟩⟩
    · cases z
    have o2 : ∀ d o, H d = some o → H2 d = some o := fun d o z => k2 _ _ (fun z2 => by rw [z2, D2n] at z; cases z) (s1 _ _ z)
    have h2 := o2 _ _ h1
    have hP3 := o2 _ _ hP
    have hvl := Paired.length hP2
    dsimp only [gName, tSeq, tAsg]
    refine ⟨_, rfl, x, C, dx, _, _, rfl, h2, T.cls, T.np, rfl, .inl ⟨rfl, _, sqL hP3⟩, _, rfl, x, C, dx, _, _, rfl, h2, T.cls, T.ne, rfl, P, vs, _, rfl, rfl, hP3, by rw [← hvl, sizeLine_eq]; omega, ?_⟩
    have xP : x ≠ P := hB.apart.1
    refine ⟨Nat.zero_le _, fun A2 nA2 => ?_⟩
    have nAP : A2 ≠ P := fun z => by rw [z, upd_same] at nA2; cases nA2
    have nA3 : H2 A2 = none := by rw [upd_ne nAP] at nA2; exact nA2
    have nAx : A2 ≠ x := fun z => by rw [z, h2] at nA3; cases nA3
    have nAD : A2 ≠ D2 := fun z => by
      obtain ⟨_, z2, _⟩ := e2
      rw [z, z2] at nA3; cases nA3
    have nAH : H A2 = none := by
      cases z : H A2 with
      | none => rfl
      | some o => rw [o2 _ _ z] at nA3; cases nA3
    refine ⟨_, rfl, x, C, dx, _, rfl, by rw [upd_ne nAx.symm, upd_ne xP]; exact h2, T.cls, T.nh, (by show 7 < 1000; decide), ?_⟩
    dsimp only [tSeq]
    refine ⟨_, rfl, _, rfl, x, C, dx, _, rfl, upd_same, T.cls, T.ne, (by show 7 < 1000; decide), ?_⟩
    obtain ⟨H5, e5⟩ : ∃ H5, H5 = upd (upd (upd (upd H2 P (.lst (vs ++ [V.ref D]))) A2 (.lst [])) x (.ins C dx (putF "ahead" (.ref A2) [("alphabet", tx b.gs), ("entries", .ref D), ("past", .ref P), ("ahead", .ref A), ("kept", .ref KD), ("many_compiled", .int nn), ("most", iv b.most)]))) x
      (.ins C dx (putF "entries" (.ref D2) (putF "ahead" (.ref A2) [("alphabet", tx b.gs), ("entries", .ref D), ("past", .ref P), ("ahead", .ref A), ("kept", .ref KD), ("many_compiled", .int nn), ("most", iv b.most)]))) := ⟨_, rfl⟩
    dsimp only [tSeq]
    rw [← e5]
    have k5 : ∀ d o, d ≠ x → d ≠ P → H2 d = some o → H5 d = some o := fun d o n1 n2 z => by
      rw [e5, upd_ne n1, upd_ne n1, upd_ne (fun q => by rw [q, nA3] at z; cases z), upd_ne n2]; exact z
    have kk : ∀ d o, d ≠ x → d ≠ P → H d = some o → H5 d = some o := fun d o n1 n2 z => k5 _ _ n1 n2 (o2 _ _ z)
    have kd : ∀ d l, H d = some (.dK l) → H5 d = some (.dK l) := fun d l z => kk _ _ (fun q => by rw [q, h1] at z; cases z) (fun q => by rw [q, hP] at z; cases z) z
    have kt : ∀ d l, H d = some (.tup l) → H5 d = some (.tup l) := fun d l z => kk _ _ (fun q => by rw [q, h1] at z; cases z) (fun q => by rw [q, hP] at z; cases z) z
    obtain ⟨kv2, g1, g2⟩ := e2
    have kt2 : ∀ d l, H2 d = some (.tup l) → H5 d = some (.tup l) := fun d l z => k5 _ _ (fun q => by rw [q, h2] at z; cases z) (fun q => by rw [q, hP3] at z; cases z) z
    refine q can H5 A2 kk nAH (BkH.mk (b := { b with now := putE b.now n e, past := b.past ++ [b.now], ahead := [] }) ⟨dx, D2, KD, nn, by rw [e5, upd_same]; rfl, kv2, k5 _ _ (fun q => by rw [q, h2] at g1; cases g1) (fun q => by rw [q, hP3] at g1; cases g1) g1, esR_keep kt2 g2⟩
      ⟨vs ++ [V.ref D], by rw [e5, upd_ne xP.symm, upd_ne xP.symm, upd_ne nAP.symm, upd_same], paired_appN (Paired.mapP hP2 fun _ _ z => z.keep kd kt) (.cons ⟨D, rfl, kvs, kd _ _ hD, esR_keep kt hR⟩ .nil)⟩ ⟨[], by rw [e5, upd_ne nAx, upd_ne nAx, upd_same], .nil⟩ nAP.symm)
end
end Own

namespace Own
open PySem PySem.Spec PyProof.Rows L2 SX RZ
section
variable {P : Program} {w : World} {K : PySem.W.Frag} {mg : Str → Option Value} {base : Heap}
def nmAt (f : Nat) (fr : Int) (st : List Nat) (i : Nat) : List Nat := if fr = 0 then (97 + (f + 3 * i) % 26) :: st else st ++ [97 + (f + 3 * i) % 26]
theorem nmAt_inj {f : Nat} {fr : Int} {st : List Nat} {i j : Nat} (hi : i < 26) (hj : j < 26) (h : nmAt f fr st i = nmAt f fr st j) : i = j := by
  have e : (f + 3 * i) % 26 = (f + 3 * j) % 26 := by
    unfold nmAt at h
    by_cases z : fr = 0
    · rw [if_pos z, if_pos z] at h
      injection h with h _
      omega
    · rw [if_neg z, if_neg z] at h
      have := List.append_cancel_left h
      injection this with h _
      omega
  omega
theorem nmAt_nodup {f : Nat} {fr : Int} {st : List Nat} {m : Nat} (hm : m ≤ 26) : ((List.range m).map (nmAt f fr st)).Nodup := by
  rw [List.Nodup, List.pairwise_map]
  refine List.Pairwise.imp_of_mem ?_ (List.nodup_range (n := m))
  intro a b ha hb hab h
  exact hab (nmAt_inj (Nat.lt_of_lt_of_le (List.mem_range.mp ha) hm) (Nat.lt_of_lt_of_le (List.mem_range.mp hb) hm) h)
def spNam : Sp := fun vs H Q _ => ∃ (r : Addr) (m : Nat), vs = [.ref r, iv m] ∧ m ≤ 20 ∧ Rng H r ∧ ∀ H' p (l : List (List Nat)), Go r H H' → H p = none → H' p = some (.lst (l.map tx)) → l.length = m → (∀ n ∈ l, OkN n) → l.Nodup → Q (.ref p) H'
abbrev sNam : Stmt := topS 132
abbrev namN : List Str := ["_law_rng", "_law_many", "_law_stem", "_law_first", "_law_front", "_law_found", "_law_sign", "_law_k"]
theorem scNam : FnScope namN ["_law_rng", "_law_many"] (defScope sNam) := ⟨rfl, rfl, rfl, by decide +kernel, rfl, by decide +kernel, by decide +kernel⟩
theorem ok_nam {f : Addr} {fd : FuncData} (F : Fun K "_law_names" "_law_names" sNam f fd) (m_int : mg "int" = none) (m_range : mg "range" = none) {f1 : Addr} {fd1 : FuncData} (c1 : Cl P w K mg base "_law_draw" 1 ["_law_rng", "_law_sides"] spDraw f1 fd1) {f2 : Addr} {fd2 : FuncData} (c2 : Cl P w K mg base "_law_pick" 2 ["_law_rng", "_law_things"] (spPick K) f2 fd2) :
    FnOk P w K mg base CX0 3 f fd ["_law_rng", "_law_many"] spNam := by
  refine F.ok scNam (fun vs H Q E h => ?_) (fun cdv A outer s H vs Q E hr h => ?_)
  · obtain ⟨r, m, rfl, _⟩ := h
    rfl
  · obtain ⟨r, m, rfl, hm, R, q⟩ := h
    refine ⟨_, (pss_cons (ps_set (i := 2) scNam.nd rfl (by first | exact .inl rfl | exact .inr rfl) (pe_join pe_str (pe_lc (own := [("_law_k", 7)]) (g := gName 7) (tt := tYes)  rfl scNam.nd (pi_range1 rfl m_range (pa_cons (pe_cl c1 hr (by decide) (by rfl) (pa_cons (pv 0) (pa_cons pe_int pa_nil))) pa_nil)) (blkOk_by (N := namN) (sc := defScope sNam) (by decide +kernel)) (fun _ _ _ _ _ => pg_name (i := 7) scNam.nd rfl (Or.inl rfl)) (fun _ _ _ _ _ => pts_nil) (fun _ _ _ _ _ => (pe_cl c2 hr (by decide) (by rfl) (pa_cons (pv 0) (pa_cons pe_str pa_nil)))))))
      (pss_cons (ps_par (i := 3) (j := 4) (by rfl) scNam.nd rfl rfl (by decide) rfl rfl (pa_cons (pe_cl c1 hr (by decide) (by rfl) (pa_cons (pv 0) (pa_cons pe_int pa_nil))) (pa_cons (pe_cl c1 hr (by decide) (by rfl) (pa_cons (pv 0) (pa_cons pe_int pa_nil))) pa_nil)) (by rfl))
      (pss_cons (ps_set (i := 5) scNam.nd rfl (by first | exact .inl rfl | exact .inr rfl) (pe_lst pa_nil))
      (pss_cons (ps_for PassesOwn.never rfl (pi_range1 rfl m_range (pa_cons (pv 1) pa_nil)) (pg_name (i := 7) scNam.nd rfl (by first | exact .inl rfl | exact .inr rfl))
        (pss_cons (ps_set (i := 6) scNam.nd rfl (by first | exact .inl rfl | exact .inr rfl) (pe_ix ix_str pe_str (pe_op op_mod (pe_callTy call_int1 (by rfl) m_int (by decide +kernel) (pa_cons (pe_op op_add (pv 3) (pe_op op_mul pe_int (pv 7))) pa_nil)) pe_int) (fun _ _ => rfl)))
      (pss_one (ps_expr (pe_bm PySem.F.plainAttrs_list PySem.F.slot_list_append PySem.F.type_list_append mt_append (pv 5) (pa_cons (pe_ifExp (pt_cmpR op_eq (pv 4) pe_int (nomark _)) (pe_op op_add_str (pv 6) (pv 2)) (pe_op op_add_str (pv 2) (pv 6))) pa_nil))))))
      (pss_one (ps_ret (pv 5))))))), ?_⟩
    have azL : Str.ofString "abcdefghijklmnopqrstuvwxyz" = S (List.range' 97 26) := by decide +kernel
    have azm : ∀ c ∈ List.range' 97 26, 97 ≤ c ∧ c ≤ 122 := fun c hc => by
      rw [List.mem_range'_1] at hc
      omega
    refine ⟨⟨_, rfl⟩, _, rfl, r, 8, rfl, by decide, by decide, R, fun H1 k g1 k0 k1 => ?_⟩
    obtain ⟨n, rfl⟩ := Int.eq_ofNat_of_zero_le k0
    refine ⟨_, rfl, by omega, by omega, fun D nD => ?_⟩
    obtain ⟨xr, er⟩ := g1.rng.ex
    have nDr : D ≠ r := (ne_of_none er nD).symm
    refine lc_range (lo := 0) (n := (n : Int).toNat)
      (fun i H' => ∃ cs : List Nat, H' D = some (.lst (cs.map fun c => V.str (S [c]))) ∧ (∀ c ∈ cs, 97 ≤ c ∧ c ≤ 122) ∧ cs.length = i ∧ Go r H1 H')
      ⟨[], upd_same, (fun c hc => nomatch hc), rfl, (Go.refl g1.rng).same (same_new nD)⟩ ?_ ?_
    · rintro i H' hi ⟨cs, hD, hc, hn, g⟩
      refine ⟨rfl, _, rfl, r, _, rfl, g.rng, .inr ⟨List.range' 97 26, by rw [azL], by decide, by decide, fun H2 c g2 hcm => ?_⟩⟩
      refine ⟨_, g2.1 _ _ nDr hD, ?_, ?_⟩
      · rw [List.length_map]
        exact small1000 (by omega)
      · refine ⟨cs ++ [c], ?_, fun x hx => ?_, by rw [List.length_append, hn]; rfl, ?_⟩
        · rw [upd_same, List.map_append]
          rfl
        · rcases List.mem_append.mp hx with h | h
          · exact hc x h
          · rw [List.mem_singleton.mp h]; exact azm c hcm
        · exact (g.trans g2).put nD
    rintro H2 ⟨st, hD, hst, hsn, g2⟩
    have hs7 : st.length ≤ 7 := by omega
    refine ⟨_, D, st.map (fun c => S [c]), rfl, rfl, .inl (.inl (.inl ?_)), ?_, ?_⟩
    · rw [hD, List.map_map]
      rfl
    · rw [one_len]
      show st.length + _ * 0 ≤ _
      omega
    rw [joinC]
    have g02 := g1.trans g2
    try dsimp only [gName, tSeq, tAsg, List.set_cons_zero, List.set_cons_succ]
    refine ⟨_, rfl, r, 26, rfl, by decide, by decide, g02.rng, fun H3 f g3 f0 f1 => ⟨_, rfl, r, 2, rfl, by decide, by decide, g3.rng, fun H4 fr g4 _ _ => ⟨_, _, rfl, ?_⟩⟩⟩
    obtain ⟨f, rfl⟩ := Int.eq_ofNat_of_zero_le f0
    have g04 := (g02.trans g3).trans g4
    try dsimp only [gName, tSeq, tAsg, List.set_cons_zero, List.set_cons_succ]
    refine ⟨Nat.zero_le _, fun L nL => ?_⟩
    obtain ⟨xr2, er2⟩ := g04.rng.ex
    have nLr : L ≠ r := (ne_of_none er2 nL).symm
    have nL0 : H L = none := by
      cases e : H L with
      | none => rfl
      | some o => rw [g04.1 _ _ nLr e] at nL; cases nL
    try dsimp only [gName, tSeq, tAsg, List.set_cons_zero, List.set_cons_succ]
    refine ⟨_, rfl, _, rfl, Int.natCast_nonneg _, by omega, ?_⟩
    refine for_range (lo := 0) (n := ((m : Nat) : Int).toNat) (fun i σ H' => ∃ (l : List (List Nat)) (v6 v7 : Option V), σ = [some (.ref r), some (iv m), some (tx st), some (iv f), some (.int fr), some (.ref L), v6, v7] ∧ H' = upd H4 L (.lst (l.map tx)) ∧ l.length = i ∧ (∀ n ∈ l, OkN n) ∧ l = (List.range i).map (nmAt f fr st))
      ⟨[], none, none, rfl, rfl, rfl, (fun _ h => nomatch h), rfl⟩ ?_ ?_
    · rintro i σ H' hi ⟨l, v6, v7, rfl, rfl, hll, hln, hlr⟩
      have hi20 : i < 20 := by omega
      have ei : ((f : Int) + 3 * (0 + (i : Int))) % 26 = (((f + 3 * i) % 26 : Nat) : Int) := by omega
      have ec : (List.range' 97 26)[(f + 3 * i) % 26]? = some (97 + (f + 3 * i) % 26) := by
        rw [List.getElem?_range' (by omega)]
        simp
      refine ⟨_, rfl, _, rfl, _, _, rfl, rfl, .inl ⟨by omega, by omega⟩, _, _, rfl, rfl, .inl ⟨_, rfl, _, _, rfl, rfl, (by show (0 : Int) < 26; decide), ?_⟩⟩
      refine ⟨_, _, 97 + (f + 3 * i) % 26, rfl, rfl, by decide, ?_, ?_⟩
      · show atI (Str.ofString "abcdefghijklmnopqrstuvwxyz").cps.toList (((f : Int) + 3 * (0 + (i : Int))) % 26) = _
        rw [az, ei]
        exact atI_nat ec
      obtain ⟨sg, hsg⟩ : ∃ sg, sg = 97 + (f + 3 * i) % 26 := ⟨_, rfl⟩
      rw [← hsg]
      have hsg2 : 97 ≤ sg ∧ sg ≤ 122 := by omega
      try dsimp only [gName, tSeq, tAsg, List.set_cons_zero, List.set_cons_succ]
      have fin : ∀ nm : List Nat, OkN nm → nm = nmAt f fr st i → ∀ ws : List V, ws = [tx nm] → rAppend (.ref L) ws (upd H4 L (.lst (l.map tx))) fun _ H1 => ∃ (l' : List (List Nat)) (v6 v7 : Option V), [some (V.ref r), some (iv m), some (tx st), some (iv f), some (.int fr), some (.ref L), some (tx [sg]), some (.int (0 + (i : Int)))] = [some (.ref r), some (iv m), some (tx st), some (iv f), some (.int fr), some (.ref L), v6, v7] ∧ H1 = upd H4 L (.lst (l'.map tx)) ∧ l'.length = i + 1 ∧ (∀ n ∈ l', OkN n) ∧ l' = (List.range (i + 1)).map (nmAt f fr st) := by
        rintro nm hnm enm _ rfl
        refine ⟨L, _, _, rfl, rfl, upd_same, by rw [List.length_map]; exact small1000 (by omega), l ++ [nm], _, _, rfl, ?_, by rw [List.length_append, hll]; rfl, fun n hn => ?_, by rw [List.range_succ, List.map_append, ← hlr, enm]; rfl⟩
        · rw [upd_upd, List.map_append]
          rfl
        · rcases List.mem_append.mp hn with h | h
          · exact hln n h
          · rw [List.mem_singleton.mp h]; exact hnm
      refine ⟨_, rfl, .inl ⟨rfl, _, sqL upd_same⟩, ?_⟩
      refine ⟨_, rfl, rfl, _, rfl, ?_⟩
      refine ite2 (fun hfr => ?_) (fun hfr => ?_)
      · refine ⟨_, rfl, _, rfl, _, _, rfl, rfl, by rw [S_len, S_len]; exact small (by show 1 + st.length ≤ 1000; omega), ?_⟩
        rw [S_cat]
        exact fin ([sg] ++ st) ⟨Nat.succ_pos _, by rw [List.length_append]; show 1 + _ ≤ 8; omega, fun c hc => by
          rcases List.mem_append.mp hc with h | h
          · rw [List.mem_singleton.mp h]; exact hsg2
          · exact hst c h⟩ (by
          have := of_decide_eq_true hfr
          unfold nmAt
          rw [if_pos (V.int.inj this), hsg]; rfl) _ rfl
      · refine ⟨_, rfl, _, rfl, _, _, rfl, rfl, by rw [S_len, S_len]; exact small (by show st.length + 1 ≤ 1000; omega), ?_⟩
        rw [S_cat]
        exact fin (st ++ [sg]) ⟨by rw [List.length_append]; exact Nat.succ_pos _, by rw [List.length_append]; show _ + 1 ≤ 8; omega, fun c hc => by
          rcases List.mem_append.mp hc with h | h
          · exact hst c h
          · rw [List.mem_singleton.mp h]; exact hsg2⟩ (by
          have := of_decide_eq_false (Bool.eq_false_iff.mpr hfr)
          unfold nmAt
          rw [if_neg (fun z => this (congrArg V.int z)), hsg]) _ rfl
    · rintro σ H' ⟨l, v6, v7, rfl, rfl, hll, hln, hlr⟩
      refine ⟨_, rfl, q _ L l (g04.same (same_new nL)) nL0 upd_same (by omega) hln ?_⟩
      rw [hlr]
      exact nmAt_nodup (by omega)
end
end Own

namespace Own
open PySem PySem.Spec PyProof.Rows L2 SX RZ
abbrev sBey : Stmt := topS 133
abbrev beyN : List Str := ["_law_book", "_law_names_here", "_law_many", "_law_size", "_law_steps", "_law_k"]
theorem scBey : FnScope beyN ["_law_book", "_law_names_here", "_law_many", "_law_size"] (defScope sBey) := ⟨rfl, rfl, rfl, by decide +kernel, rfl, by decide +kernel, by decide +kernel⟩
abbrev qBey : Str := (envOfC "_law_beyond_capacity" (defScope sBey) 0 0 .none).qual
def nmB (_ _ : Nat) : Str := qBey ++ "<lambda>"
abbrev sLaw : Stmt := topS 134
abbrev lawN : List Str := ["_law_script", "_law_rng", "_law_turn", "_law_name", "_law_bar", "_law_step", "_law_told", "_law_right", "_law_found", "_law_book", "_law_good", "_law_many", "_law_names_here", "_law_wild", "_law_wish"]
theorem scLaw : FnScope lawN ["_law_script"] (defScope sLaw) := ⟨rfl, rfl, rfl, by decide +kernel, rfl, by decide +kernel, by decide +kernel⟩
abbrev qLaw : Str := (envOfC "law" (defScope sLaw) 0 0 .none).qual
def nmL (_ _ : Nat) : Str := qLaw ++ "<lambda>"
abbrev T77 (tb tb2 : Addr) : List NdefX.NTab := [(tb, nmL), (tb2, nmB)]
theorem hu77 {tb tb2 : Addr} (n : tb ≠ tb2) : ∀ p ∈ T77 tb tb2, p.1 = tb → p.2 = nmL := fun p hp e => by
  rcases List.mem_cons.mp hp with rfl | hp
  · rfl
  · rw [List.mem_singleton.mp hp] at e; exact absurd e.symm n
theorem hu77b {tb tb2 : Addr} (n : tb ≠ tb2) : ∀ p ∈ T77 tb tb2, p.1 = tb2 → p.2 = nmB := fun p hp e => by
  rcases List.mem_cons.mp hp with rfl | hp
  · exact absurd e n
  · rw [List.mem_singleton.mp hp]
/-- the steps of a book, all in their order -/
def Bk.line (b : Bk) : List Es := b.past ++ b.now :: b.ahead.reverse
def spBey (C : Addr) (Tb : List NdefX.NTab) : Sp := fun vs H Q _ => ∃ (x P A L : Addr) (b : Bk) (ns : List (List Nat)) (many size : Nat), vs = [.ref x, .ref L, iv many, iv size] ∧ BkH H C x P A b ∧ Good b.gs ∧ H L = some (.lst (ns.map tx)) ∧ NdefX.TabsN Tb H ∧ ns.length = 13 ∧ (∀ n ∈ ns, OkN n) ∧
  b.ahead = [] ∧ b.line.head? = some [] ∧ b.now.length = size ∧ 1 ≤ size ∧ size ≤ 20 ∧ b.past.length ≤ 100 ∧ (∀ n, ns[12]? = some n → lookE b.now n = none) ∧ (many ≠ 0 → ∀ n, ns[0]? = some n → ∃ c, lookE b.now n = some (.cd c)) ∧
  ∀ H', (∀ d o, (∀ ps, o ≠ .tbl ps) → d ≠ x → d ≠ P → d ≠ A → H d = some o → H' d = some o) → NdefX.TabsN Tb H' → Q (.bl true) H'
theorem BkH.ext {H H' : Hp} {C x P A : Addr} {b : Bk} (h : BkH H C x P A b) (e : ∀ d o, H d = some o → (∀ ps, o ≠ .tbl ps) → H' d = some o) : BkH H' C x P A b := by
  obtain ⟨⟨dx, D, KD, n, h1, h2⟩, ⟨vs, h3, h4⟩, ⟨ws, h5, h6⟩, ne⟩ := h
  have kd : ∀ c kvs, H c = some (.dK kvs) → H' c = some (.dK kvs) := fun c kvs z => e _ _ z fun _ q => nomatch q
  have kt : ∀ c xs, H c = some (.tup xs) → H' c = some (.tup xs) := fun c xs z => e _ _ z fun _ q => nomatch q
  exact ⟨⟨dx, D, KD, n, e _ _ h1 (fun _ q => nomatch q), h2.keep kd kt⟩, ⟨vs, e _ _ h3 (fun _ q => nomatch q), Paired.mapP h4 fun _ _ z => z.keep kd kt⟩, ⟨ws, e _ _ h5 (fun _ q => nomatch q), Paired.mapP h6 fun _ _ z => z.keep kd kt⟩, ne⟩
theorem tabsN_go {T : List NdefX.NTab} {r : Addr} {H H' : Hp} (t : NdefX.TabsN T H) (g : Go r H H') : NdefX.TabsN T H' := by
  intro p hp
  obtain ⟨ps, h1, h2, h3⟩ := t p hp
  obtain ⟨xs, er⟩ := g.rng0.ex
  refine ⟨ps, g.1 _ _ (ne_of h1 er fun z => by cases z) h1, h2, fun pos cv hc => ?_⟩
  obtain ⟨c', e, hcd⟩ := h3 pos cv hc
  exact ⟨c', e, g.1 _ _ (ne_of hcd er fun z => by unfold LamX.CodeO at z; cases z) hcd⟩
theorem tabsN_same {T : List NdefX.NTab} {H H' : Hp} (t : NdefX.TabsN T H) (s : Same H H') : NdefX.TabsN T H' := t.ext fun b o e => s _ _ e
theorem tabsN_chgB {T : List NdefX.NTab} {H H' : Hp} {C x P A : Addr} {b : Bk} (h : BkH H C x P A b) (t : NdefX.TabsN T H) (g : ChgB H H' x P A) : NdefX.TabsN T H' := by
  intro p hp
  obtain ⟨ps, h1, h2, h3⟩ := t p hp
  obtain ⟨⟨dx, D, KD, n, e1, _⟩, ⟨vs, e2, _⟩, ⟨ws, e3, _⟩, _⟩ := h
  refine ⟨ps, g _ _ (ne_of h1 e1 fun z => by cases z) (ne_of h1 e2 fun z => by cases z) (ne_of h1 e3 fun z => by cases z) h1, h2, fun pos cv hc => ?_⟩
  obtain ⟨c', e, hcd⟩ := h3 pos cv hc
  exact ⟨c', e, g _ _ (ne_of hcd e1 fun z => by unfold LamX.CodeO at z; cases z) (ne_of hcd e2 fun z => by unfold LamX.CodeO at z; cases z) (ne_of hcd e3 fun z => by unfold LamX.CodeO at z; cases z) hcd⟩
theorem sh_n {c : Str} (h : PyData.canLay0 (.str c) = true) : SeqAt.shaped (.tuple [.str c, .none]) = true := by
  unfold SeqAt.shaped
  show ((PyData.canLay0 (.str c) && (PyData.canLay0 .none && PyData.canLayAll0 [])) && _) = true
  rw [h]
  rfl
theorem sh_si {c : Str} {i : Int} (h : PyData.canLay0 (.str c) = true) : SeqAt.shaped (.tuple [.str c, .int i]) = true := by
  unfold SeqAt.shaped
  show ((PyData.canLay0 (.str c) && (PyData.canLay0 (.int i) && PyData.canLayAll0 [])) && _) = true
  rw [h]
  rfl
theorem sh_ii {i j : Int} : SeqAt.shaped (.tuple [.int i, .int j]) = true := by
  unfold SeqAt.shaped
  show ((PyData.canLay0 (.int i) && (PyData.canLay0 (.int j) && PyData.canLayAll0 [])) && _) = true
  rfl
theorem pr_n {K : PySem.W.Frag} {H : Hp} {a : Addr} {c : Str} (h : H a = some (.tup [.str c, .non])) : Dp K H (.ref a) (.tuple [.str c, .none]) := .tup (sqT h) (.cons (.str _) (.cons .non .nil))
theorem pr_si {K : PySem.W.Frag} {H : Hp} {a : Addr} {c : Str} {i : Int} (h : H a = some (.tup [.str c, .int i])) : Dp K H (.ref a) (.tuple [.str c, .int i]) := .tup (sqT h) (.cons (.str _) (.cons (.int _) .nil))
theorem pr_ii {K : PySem.W.Frag} {H : Hp} {a : Addr} {i j : Int} (h : H a = some (.tup [.int i, .int j])) : Dp K H (.ref a) (.tuple [.int i, .int j]) := .tup (sqT h) (.cons (.int _) (.cons (.int _) .nil))
theorem cl_lr : PyData.canLay0 (.str (Str.ofString "LimitReached")) = true := by decide +kernel
theorem cl_va : PyData.canLay0 (.str (Str.ofString "value")) = true := by decide +kernel
theorem cl_il : PyData.canLay0 (.str (Str.ofString "InvalidLetters")) = true := by decide +kernel
theorem fl_lr : fldOf "LimitReached" = some "limit" := by decide +kernel
/-- the condition match() -/
theorem mat_ok {gs : List Nat} : MnTx gs (.cd (.mat [])) (Cnd.cTx (.mat [])) := ⟨rfl, .mat Cnd.Pat.nil (by decide), by decide⟩
theorem mat_sz : MngSz (.cd (.mat [])) := ⟨by decide, by decide⟩
theorem mat_no : NoNm (.cd (.mat [])) := ⟨by decide, rfl, by decide⟩
theorem ex_last {α : Type} : ∀ {l : List α}, 0 < l.length → ∃ i a, l = i ++ [a]
  | [], h => absurd h (Nat.lt_irrefl 0)
  | [a], _ => ⟨[], a, rfl⟩
  | a :: b :: r, _ => by
    obtain ⟨i, c, e⟩ := ex_last (l := b :: r) (Nat.succ_pos _)
    exact ⟨a :: i, c, by rw [e]; rfl⟩
theorem line_len (b : Bk) : b.line.length = b.past.length + 1 + b.ahead.length := by
  unfold Bk.line
  rw [List.length_append, List.length_cons, List.length_reverse]; omega
theorem ChgB.tr {H H1 H2 : Hp} {x P A : Addr} (a : ChgB H H1 x P A) (b : ChgB H1 H2 x P A) : ChgB H H2 x P A := fun d o n1 n2 n3 e => b _ _ n1 n2 n3 (a _ _ n1 n2 n3 e)
theorem ChgB.of {H H1 : Hp} {x P A : Addr} (s : Same H H1) : ChgB H H1 x P A := fun d o _ _ _ e => s _ _ e
section
variable {P : Program} {w : World} {K : PySem.W.Frag} {mg : Str → Option Value} {base : Heap}
variable {f1 f2 f3 f4 f5 f6 f7 f8 fI fP fY q1 h1 fLn fSc fAp fUn fRe fHi CF CM CL CI C c tb tb2 : Addr} {fd1 fd2 fd3 fd4 fd5 fd6 fd7 fd8 fdI fdP fdY hd1 fdLn fdSc fdUn fdRe fdHi : FuncData}
theorem ok_bey {f : Addr} {kV doc pm ct oc : Value} {an od : Option Addr} {osl : Array (Option Value)}
    (lk : K.lookup f = some ⟨oc, od, .func (PySem.W.fnOf "_law_beyond_capacity" "_law_beyond_capacity" (defArgs sBey) (defBody sBey) (defScope sBey) .none kV doc pm an (.ref c) ct), osl⟩) (hcd : PySem.W.codeIn K (.ref c) "_law_beyond_capacity" = true)
    (TB : LamX.TabB base mg c tb2) (tn : tb ≠ tb2) (m_len : mg "len" = none) (m_range : mg "range" = none) (T : BkC K C)
    (PC : PropOf K C "capacity" q1 h1) (GC : FnOk P w K mg base CX0 1 h1 hd1 ["self"] (spCap C)) (bC : Binds K hd1 ["self"] [])
    (OLn : DunOf K C "__len__" fLn) (GLn : FnOk P w K mg base CX0 1 fLn fdLn ["self"] (spBln C)) (bLn : Binds K fdLn ["self"] [])
    (mSc : Meth K C "set_capacity" fSc) (GSc : FnOk P w K mg base (L2.CX P w) 3 fSc fdSc ["self", "most"] (spSc C CL)) (kSc : KBn K fdSc ["self", "most"] 1 ["most"] onC onC) (bSc : Binds K fdSc ["self", "most"] [])
    (mAp : Meth K C "apply" fAp) (GAp : FnR P w K mg base (L2.CX P w) 14 fAp (fun vs H Q E => ∃ ws rest, vs = ws ++ rest ∧ ws.length = [("self" : Str)].length ∧ rest.length ≤ PySem.sizeLine ∧ ∀ (p : Addr), H p = none → spAp1 C CL (ws ++ [V.ref p]) (upd H p (.tup rest)) Q E))
    (mUn : Meth K C "undo" fUn) (GUn : FnOk P w K mg base CX0 1 fUn fdUn ["self"] (spUnd C)) (bUn : Binds K fdUn ["self"] [])
    (mRe : Meth K C "redo" fRe) (GRe : FnOk P w K mg base CX0 1 fRe fdRe ["self"] (spRed C)) (bRe : Binds K fdRe ["self"] [])
    (mHi : Meth K C "history" fHi) (GHi : FnOk P w K mg base CX0 1 fHi fdHi ["self"] (spBhi C)) (bHi : Binds K fdHi ["self"] [])
    (mF : mg "FillError" = some (.ref CF)) (mM : mg "Missing" = some (.ref CM))
    (FP : FnP P w K mg base 1 fP fdP ["_law_e"] (spFldN K)) (gP : mg "_law_field" = some (.ref fP)) (kP : PySem.W.keepIn K (.ref fP) = true) (bP : Binds K fdP ["_law_e"] [])
    (FY : Fun K "_law_try" "_law_try" sTry fY fdY) (gY : mg "_law_try" = some (.ref fY)) (bY : Binds K fdY ["_law_ask"] [])
    (EL : ErrC K mg "LimitReached" CL) (xL : PySem.W.exmAny K (.ref CL) [.ref CF, .ref CM] = some true) (nL : PySem.W.findIn K (.ref CL) "limit" = some none) :
    FnOk P w K mg base CX0 18 f (PySem.W.fnOf "_law_beyond_capacity" "_law_beyond_capacity" (defArgs sBey) (defBody sBey) (defScope sBey) .none kV doc pm an (.ref c) ct) ["_law_book", "_law_names_here", "_law_many", "_law_size"] (spBey C (T77 tb tb2)) := by
  obtain ⟨ocY, odY, kVY, docY, pmY, anY, cdY, ctY, oslY, rfl, lkY, hcY⟩ := FY.ex
  refine fn_of lk hcd scBey (fun vs H Q E h => ?_) (fun A outer s H vs Q E hr h => ?_)
  · obtain ⟨x, P, A, L, b, ns, many, size, rfl, _⟩ := h
    rfl
  · obtain ⟨x, P, A, L, b, ns, many, size, rfl, hB, hg, hL, hT, hnl, hnn, ha, hh, hsz, hs1, hs2, hpl, h12, h0, q⟩ := h
    refine ⟨_, (pss_cons (ps_set (i := 4) scBey.nd rfl (by first | exact .inl rfl | exact .inr rfl) (pe_ix (ixT (K := K) rfl) (pe_meth0 (pv 0) T.cls mHi GHi (hr.mono (by decide)) bHi .nil pass0) pe_int (fun _ _ => rfl)))
      (pss_cons (ps_for (passes_of rfl) rfl (pi_range1 rfl m_range (pa_cons (pv 4) pa_nil)) (pg_name (i := 5) scBey.nd rfl (by first | exact .inl rfl | exact .inr rfl))
        (pss_one (ps_expr (pe_meth0 (pv 0) T.cls mUn GUn (hr.mono (by decide)) bUn .nil pass0))))
      (pss_cons (ps_expr (pe_methN0 (pv 0) T.cls mSc GSc (hr.mono (by decide)) kSc (passE0 rfl rfl) (pk_cons pe_int pk_nil)))
      (pss_cons (ps_for (passes_of rfl) rfl (pi_range1 rfl m_range (pa_cons (pv 4) pa_nil)) (pg_name (i := 5) scBey.nd rfl (by first | exact .inl rfl | exact .inr rfl))
        (pss_one (ps_expr (pe_meth0 (pv 0) T.cls mRe GRe (hr.mono (by decide)) bRe .nil pass0))))
      (pss_cons (ps_if (PW.pt (pw_or (pt_cmpR op_ne (pe_prop (pv 0) T.cls PC GC (hr.mono (by decide)) bC .nil pass0 (by rfl)) pe_int (nomark _)) (pw_or (pt_cmpR op_ne (pe_callB (call_lenO GLn OLn bLn pass0 (hr.mono (by decide))) (by rfl) m_len PySem.boot_len (pa_cons (pv 0) pa_nil)) (pv 3) (nomark _)) (pw_or1 (pt_cmpR (op_neD hr.units) (pe_meth0 (pv 0) T.cls mHi GHi (hr.mono (by decide)) bHi .nil pass0) (pe_tup (pa_cons (pv 4) (pa_cons pe_int pa_nil))) (nomark _)))))) pss_never pss_nil)
      (pss_cons (ps_if (pt_cmpR (op_neD hr.units) (pe_tryE (TT := TryN K CF CM) (k := 15) (by rfl) gY FY.kp (pe_lamVN (T := T77 tb tb2) (nm := nmB) TB rfl (List.Mem.tail _ (List.Mem.head _)) (by rfl) (hu77b (tb := tb) (tb2 := tb2) tn) (LamN.free (lamN_by (by show lamNB beyN (defScope sBey) _ = true; decide +kernel))) rfl) lkY hcY bY scTry rfl (Or.inl rfl) (try_gives mF mM FP gP kP bP (hr.mono (by decide))) (hr.mono (by decide))) (pe_tup (pa_cons pe_str (pa_cons pe_int pa_nil))) (nomark _)) pss_never pss_nil)
      (pss_cons (ps_if (pt_cmpR op_eq (pv 2) pe_int (nomark _)) (pss_one (ps_ret pe_bl)) pss_nil)
      (pss_one (ps_ret (pe_cmpR (op_eqD hr.units) (pe_tryE (TT := TryN K CF CM) (k := 15) (by rfl) gY FY.kp (pe_lamVN (T := T77 tb tb2) (nm := nmB) TB rfl (List.Mem.tail _ (List.Mem.head _)) (by rfl) (hu77b (tb := tb) (tb2 := tb2) tn) (LamN.free (lamN_by (by show lamNB beyN (defScope sBey) _ = true; decide +kernel))) rfl) lkY hcY bY scTry rfl (Or.inl rfl) (try_gives mF mM FP gP kP bP (hr.mono (by decide))) (hr.mono (by decide))) (pe_tup (pa_cons pe_str (pa_cons pe_non pa_nil))) (nomark _))))))))))), ?_⟩
    obtain ⟨⟨dx, D0, KD0, n0, hx, _⟩, _⟩ := id hB
    have hlt1 : ∀ {d o}, H d = some o → (∀ vs, o ≠ .lst vs) → (∀ C dx fs, o ≠ .ins C dx fs) → d ≠ x ∧ d ≠ P ∧ d ≠ A := fun {d o} e n1 n2 => by
      obtain ⟨_, ⟨vs, hP, _⟩, ⟨ws, hA, _⟩, _⟩ := id hB
      exact ⟨fun z => (by rw [z, hx] at e; cases e; exact n2 _ _ _ rfl), fun z => (by rw [z, hP] at e; cases e; exact n1 _ rfl), fun z => (by rw [z, hA] at e; cases e; exact n1 _ rfl)⟩
    have hLn : L ≠ x ∧ L ≠ P ∧ L ≠ A := by
      obtain ⟨_, ⟨vs, hP, hP2⟩, ⟨ws, hA, hA2⟩, _⟩ := id hB
      obtain ⟨n1, hn1⟩ : ∃ n1, ns[0]? = some n1 := ⟨_, List.getElem?_eq_getElem (by omega)⟩
      have frs : ∀ {es : List Es} {vs : List V}, Paired (EsL H) es vs → vs ≠ ns.map tx := fun {es vs} p e => by
        cases p with
        | nil => have := congrArg List.length e; rw [List.length_map, hnl] at this; cases this
        | cons h t =>
          obtain ⟨D, rfl, _⟩ := h
          have := congrArg (fun l => l[0]?) e
          simp only [List.getElem?_cons_zero, List.getElem?_map, hn1] at this
          cases this
      exact ⟨fun z => (by rw [z, hx] at hL; cases hL), fun z => (by rw [z, hP] at hL; exact frs hP2 (by cases hL; rfl)), fun z => (by rw [z, hA] at hL; exact frs hA2 (by cases hL; rfl))⟩
    refine ⟨_, rfl, x, dx, _, rfl, hx, rfl, x, P, A, b, rfl, hB, fun H1 T1 s1 n1 hT1 => ?_⟩
    refine ⟨T1, _, 0, _, rfl, rfl, sqT hT1, atI_nat (j := 0) rfl, ?_⟩
    dsimp only [gName, tSeq, tAsg]
    have B1 := hB.same s1
    refine ⟨_, rfl, _, rfl, Int.natCast_nonneg _, by omega, ?_⟩
    refine for_range (lo := 0) (n := ((b.past.length : Nat) : Int).toNat) (fun i σ H' => ∃ (v5 : Option V) (b' : Bk), σ = [some (.ref x), some (.ref L), some (iv many), some (iv size), some (iv b.past.length), v5] ∧ BkH H' C x P A b' ∧ b'.gs = b.gs ∧ b'.line = b.line ∧ b'.past.length + i = b.past.length ∧ ChgB H H' x P A)
      ⟨none, b, rfl, B1, rfl, rfl, rfl, .of s1⟩ ?_ ?_
    · rintro i σ H2 hi ⟨v5, b', rfl, B2, g2, l2, p2, k2⟩
      dsimp only [gName, tSeq, tAsg, List.set_cons_zero, List.set_cons_succ]
      obtain ⟨ini, las, e2⟩ := ex_last (l := b'.past) (by omega)
      obtain ⟨⟨dx2, D2, KD2, n2, hx2, _⟩, _⟩ := id B2
      have ll := congrArg List.length l2
      rw [line_len, line_len, ha] at ll
      have ll : b'.past.length + 1 + b'.ahead.length = b.past.length + 1 + 0 := ll
      refine ⟨_, rfl, x, dx2, _, rfl, hx2, rfl, x, P, A, b', ini, las, rfl, B2, e2, by omega, by omega, fun H3 k3 B3 => ?_⟩
      refine ⟨_, _, rfl, B3, g2, ?_, ?_, k2.tr k3⟩
      · rw [← l2]
        unfold Bk.line
        show ini ++ las :: (b'.ahead ++ [b'.now]).reverse = b'.past ++ b'.now :: b'.ahead.reverse
        rw [e2, List.append_assoc, List.reverse_append]
        rfl
      · rw [e2, List.length_append] at p2
        have p2 : ini.length + 1 + i = b.past.length := p2
        show ini.length + (i + 1) = _
        omega
    rintro σ H2 ⟨v5, b2, rfl, B2, g2, l2, p2, k2⟩
    dsimp only [gName, tSeq, tAsg, List.set_cons_zero, List.set_cons_succ]
    have p0 : b2.past = [] := List.eq_nil_of_length_eq_zero (by omega)
    have now0 : b2.now = [] := by
      have := hh
      rw [← l2] at this
      unfold Bk.line at this
      rw [p0] at this
      exact Option.some.inj this
    obtain ⟨⟨dx2, D2, KD2, n2, hx2, _⟩, _⟩ := id B2
    refine ⟨_, rfl, x, dx2, _, rfl, hx2, rfl, rfl, x, P, A, b2, 1, rfl, B2, fun _ _ H3 k3 B3 => ?_, fun z => ?_⟩
    rotate_left
    · rw [now0] at z
      exact absurd z (by decide)
    have k3' := k2.tr (fun d o n1 _ _ e => k3 d o n1 e : ChgB H2 H3 x P A)
    have ll2 := congrArg List.length l2
    rw [line_len, line_len, ha, p0] at ll2
    have ll2 : 0 + 1 + b2.ahead.length = b.past.length + 1 + 0 := ll2
    dsimp only [gName, tSeq, tAsg, List.set_cons_zero, List.set_cons_succ]
    refine ⟨_, rfl, _, rfl, Int.natCast_nonneg _, by omega, ?_⟩
    refine for_range (lo := 0) (n := ((b.past.length : Nat) : Int).toNat) (fun i σ H' => ∃ (v5 : Option V) (b' : Bk), σ = [some (.ref x), some (.ref L), some (iv many), some (iv size), some (iv b.past.length), v5] ∧ BkH H' C x P A b' ∧ b'.gs = b.gs ∧ b'.most = 1 ∧ b'.line = b.line ∧ b'.past.length = i ∧ ChgB H H' x P A)
      ⟨_, _, rfl, B3, g2, rfl, l2, congrArg List.length p0, k3'⟩ ?_ ?_
    · rintro i σ H4 hi ⟨v5, b', rfl, B4, g4, m4, l4, p4, k4⟩
      dsimp only [gName, tSeq, tAsg, List.set_cons_zero, List.set_cons_succ]
      have ll := congrArg List.length l4
      rw [line_len, line_len, ha] at ll
      have ll : b'.past.length + 1 + b'.ahead.length = b.past.length + 1 + 0 := ll
      obtain ⟨ini, las, e4⟩ := ex_last (l := b'.ahead) (by omega)
      obtain ⟨⟨dx4, D4, KD4, n4, hx4, _⟩, _⟩ := id B4
      refine ⟨_, rfl, x, dx4, _, rfl, hx4, rfl, x, P, A, b', ini, las, rfl, B4, e4, by omega, by omega, fun H5 k5 B5 => ?_⟩
      refine ⟨_, _, rfl, B5, g4, m4, ?_, ?_, k4.tr k5⟩
      · rw [← l4]
        unfold Bk.line
        show (b'.past ++ [b'.now]) ++ las :: ini.reverse = b'.past ++ b'.now :: b'.ahead.reverse
        rw [e4, List.append_assoc, List.reverse_append]
        rfl
      · show (b'.past ++ [b'.now]).length = i + 1
        rw [List.length_append, p4]; rfl
    rintro σ H4 ⟨v6, b4, rfl, B4, g4, m4, l4, p4, k4⟩
    dsimp only [gName, tSeq, tAsg, List.set_cons_zero, List.set_cons_succ]
    have p4 : b4.past.length = b.past.length := by omega
    have ll := congrArg List.length l4
    rw [line_len, line_len, ha] at ll
    have ll : b4.past.length + 1 + b4.ahead.length = b.past.length + 1 + 0 := ll
    have a4 : b4.ahead = [] := List.eq_nil_of_length_eq_zero (by omega)
    have pn : b4.past = b.past ∧ b4.now = b.now := by
      unfold Bk.line at l4
      rw [a4, ha] at l4
      obtain ⟨e1, e2⟩ := List.append_inj l4 p4
      injection e2 with e2 _
      exact ⟨e1, e2⟩
    obtain ⟨⟨dx4, D4, KD4, n4, hx4, _⟩, _⟩ := id B4
    refine ⟨_, rfl, x, dx4, _, rfl, hx4, x, P, A, b4, rfl, B4, ?_⟩
    refine ⟨rfl, _, rfl, ?_⟩
    rw [m4]
    refine iteF ?_
    refine ⟨_, rfl, x, dx4, _, rfl, hx4, x, P, A, b4, rfl, B4, b4.now.length, rfl, by rw [pn.2, hsz]; omega, _, rfl, rfl, _, rfl, ?_⟩
    rw [pn.2, hsz, show (!decide (iv size = iv size)) = false by rw [decide_eq_true rfl]; rfl]
    refine iteF ?_
    refine ⟨_, rfl, x, dx4, _, rfl, hx4, rfl, x, P, A, b4, rfl, B4, fun H5 T5 s5 n5 hT5 => ?_⟩
    refine ⟨_, rfl, (by show 2 ≤ sizeLine; decide), fun T6 n6 => ?_⟩
    have s6 := same_new (o := .tup [iv b.past.length, V.int 0]) n6
    rw [p4, a4] at hT5
    refine ⟨.tuple [.int (b.past.length : Nat), .int 0], .tuple [.int (b.past.length : Nat), .int 0], pr_ii (s6 _ _ hT5), pr_ii upd_same, sh_ii, sh_ii, ?_⟩
    rw [SeqAt.eqv_refl _ (SeqAt.canLay_of_shaped sh_ii)]
    refine ⟨false, rfl, iteF ?_⟩
    dsimp only [gName, tSeq, tAsg, tNext, List.set_cons_zero, List.set_cons_succ]
    have B6 := (B4.same s5).same s6
    have k6 : ChgB H (upd H5 T6 (.tup [iv b.past.length, V.int 0])) x P A := (k4.tr (.of s5)).tr (.of s6)
    generalize upd H5 T6 (.tup [iv b.past.length, V.int 0]) = H6 at B6 k6 ⊢
    have tab6 := tabsN_chgB hB hT k6
    refine ⟨tab6, fun f2 c2 H7 e7 t7 nf2 la => ⟨_, rfl, f2, _, _, rfl, lamB_of (k := 15) (t := fun E => tMethR C "apply" (fun vs H Q E => ∃ ws rest, vs = ws ++ rest ∧ ws.length = [("self" : Str)].length ∧ rest.length ≤ PySem.sizeLine ∧ ∀ (p : Addr), H p = none → spAp1 C CL (ws ++ [V.ref p]) (upd H p (.tup rest)) Q E) E (tVar 0) (tCons (tTup (tCons (tC (.str (Str.ofString "condition"))) (tCons (tOp (rIxL K) (tVar 1) (tC (.int 12))) (tCons (tC (.str (Str.ofString "match()"))) tNil)))) tNil)) la (lamN_by (by show lamNB beyN (defScope sBey) _ = true; decide +kernel)) (bindsL0 fun _ _ => rfl)
      (fun f A outer s H E hr2 => pe_methR (pv 0) T.cls mAp GAp (hr2.mono (by decide)) (passes_call (takes_of rfl rfl rfl rfl) (fun _ _ _ _ h => h)) (pa_cons (pe_tup (pa_cons pe_str (pa_cons (pe_ix (ixL (K := K) rfl) (pv 1) pe_int (fun _ _ => rfl)) (pa_cons pe_str pa_nil)))) pa_nil)), la, ?_⟩⟩
    have kx : ∀ d o, H6 d = some o → (∀ ps, o ≠ .tbl ps) → H7 d = some o := e7
    have B7 := B6.ext kx
    have L7 : H7 L = some (.lst (ns.map tx)) := kx _ _ (k6 _ _ hLn.1 hLn.2.1 hLn.2.2 hL) (fun _ q => nomatch q)
    have hg4 : Good b4.gs := by rw [g4]; exact hg
    have nl4 : b4.now.length = size := by rw [pn.2, hsz]
    have pl4 : b4.past.length ≤ 100 := by rw [pn.1]; exact hpl
    obtain ⟨n12, e12⟩ : ∃ n, ns[12]? = some n := ⟨_, List.getElem?_eq_getElem (by omega)⟩
    obtain ⟨n00, e00⟩ : ∃ n, ns[0]? = some n := ⟨_, List.getElem?_eq_getElem (by omega)⟩
    have at12 : (ns.map tx)[12]? = some (tx n12) := by rw [List.getElem?_map, e12]; rfl
    have at00 : (ns.map tx)[0]? = some (tx n00) := by rw [List.getElem?_map, e00]; rfl
    have look12 : lookE b4.now n12 = none := by rw [pn.2]; exact h12 n12 e12
    obtain ⟨⟨dx7, D7, KD7, n7, hx7, _⟩, _⟩ := id B7
    refine ⟨la, _, rfl, x, dx7, _, rfl, hx7, rfl, _, rfl, L, _, 12, _, rfl, rfl, sqL L7, atI_nat (j := 12) at12, (by show 3 ≤ sizeLine; decide), fun cm nc => ⟨[.ref x], [.ref cm], rfl, rfl, (by show 1 ≤ sizeLine; decide), fun T8 n8 => ?_⟩⟩
    have sc := same_new (o := .tup [V.str (Str.ofString "condition"), tx n12, V.str (Str.ofString "match()")]) nc
    have s8 := same_new (o := .tup [V.ref cm]) n8
    have s78 := sc.trans s8
    refine ⟨x, P, A, T8, cm, b4, n12, Cnd.cTx (.mat []), .cd (.mat []), rfl, upd_same, B7.same s78, hg4, by omega, by omega, s8 _ _ upd_same, hnn n12 (List.mem_of_getElem? e12), mat_ok, (by decide), mat_sz, mat_no, (fun e' z => by rw [look12] at z; cases z), (fun z => ?_), fun _ _ H9 d s9 hd => ⟨xL, _, _, errN_1 EL hd fl_lr nL (by decide), fun H10 t s10 nt => ?_⟩⟩
    · rcases z with z | z
      · exact absurd look12 z
      · omega
    refine ⟨(by show 2 ≤ sizeLine; decide), fun t11 nt11 => ?_⟩
    have st := same_new (o := .tup [V.str (Str.ofString "LimitReached"), iv b4.most]) nt
    have s11 := same_new (o := .tup [V.str (Str.ofString "LimitReached"), V.int 1]) nt11
    have p1 : upd H10 t (.tup [V.str (Str.ofString "LimitReached"), iv b4.most]) t = some (.tup [V.str (Str.ofString "LimitReached"), V.int 1]) := by rw [upd_same, m4]; rfl
    refine ⟨.tuple [.str (Str.ofString "LimitReached"), .int 1], .tuple [.str (Str.ofString "LimitReached"), .int 1], pr_si (s11 _ _ p1), pr_si upd_same, sh_si cl_lr, sh_si cl_lr, ?_⟩
    rw [SeqAt.eqv_refl _ (SeqAt.canLay_of_shaped (sh_si cl_lr))]
    refine ⟨false, rfl, iteF ?_⟩
    dsimp only [gName, tSeq, tAsg, tNext, List.set_cons_zero, List.set_cons_succ]
    have S711 : Same H7 (upd (upd H10 t (.tup [V.str (Str.ofString "LimitReached"), iv b4.most])) t11 (.tup [V.str (Str.ofString "LimitReached"), V.int 1])) := s78.trans (s9.trans (s10.trans (st.trans s11)))
    have B11 := B7.same S711
    have L11 := S711 _ _ L7
    have t11' := tabsN_same t7 S711
    have k11 : ∀ d o, (∀ ps, o ≠ .tbl ps) → d ≠ x → d ≠ P → d ≠ A → H d = some o → upd (upd H10 t (.tup [V.str (Str.ofString "LimitReached"), iv b4.most])) t11 (.tup [V.str (Str.ofString "LimitReached"), V.int 1]) d = some o := fun d o nt n1 n2 n3 e => S711 _ _ (kx _ _ (k6 _ _ n1 n2 n3 e) nt)
    generalize upd (upd H10 t (.tup [V.str (Str.ofString "LimitReached"), iv b4.most])) t11 (.tup [V.str (Str.ofString "LimitReached"), V.int 1]) = H11 at B11 L11 t11' k11 ⊢
    refine ⟨_, rfl, rfl, _, rfl, ?_⟩
    by_cases hm0 : many = 0
    · rw [decide_eq_true (by rw [hm0]; rfl)]
      refine iteT ?_
      exact q _ k11 t11'
    rw [decide_eq_false (fun z => hm0 (by injection z with z; omega))]
    refine iteF ?_
    refine ⟨t11', fun f3 c3 H12 e12' t12 nf3 la2 => ⟨_, rfl, f3, _, _, rfl, lamB_of (k := 15) (t := fun E => tMethR C "apply" (fun vs H Q E => ∃ ws rest, vs = ws ++ rest ∧ ws.length = [("self" : Str)].length ∧ rest.length ≤ PySem.sizeLine ∧ ∀ (p : Addr), H p = none → spAp1 C CL (ws ++ [V.ref p]) (upd H p (.tup rest)) Q E) E (tVar 0) (tCons (tTup (tCons (tC (.str (Str.ofString "condition"))) (tCons (tOp (rIxL K) (tVar 1) (tC (.int 0))) (tCons (tC (.str (Str.ofString "match()"))) tNil)))) tNil)) la2 (lamN_by (by show lamNB beyN (defScope sBey) _ = true; decide +kernel)) (bindsL0 fun _ _ => rfl)
      (fun f A outer s H E hr2 => pe_methR (pv 0) T.cls mAp GAp (hr2.mono (by decide)) (passes_call (takes_of rfl rfl rfl rfl) (fun _ _ _ _ h => h)) (pa_cons (pe_tup (pa_cons pe_str (pa_cons (pe_ix (ixL (K := K) rfl) (pv 1) pe_int (fun _ _ => rfl)) (pa_cons pe_str pa_nil)))) pa_nil)), la2, ?_⟩⟩
    have kx2 : ∀ d o, H11 d = some o → (∀ ps, o ≠ .tbl ps) → H12 d = some o := e12'
    have B12 := B11.ext kx2
    have L12 := kx2 _ _ L11 (fun _ q => nomatch q)
    obtain ⟨c00, look00⟩ := h0 hm0 n00 e00
    have look00 : lookE b4.now n00 = some (.cd c00) := by rw [pn.2]; exact look00
    obtain ⟨⟨dx12, D12, KD12, n12', hx12, _⟩, _⟩ := id B12
    refine ⟨la2, _, rfl, x, dx12, _, rfl, hx12, rfl, _, rfl, L, _, 0, _, rfl, rfl, sqL L12, atI_nat (j := 0) at00, (by show 3 ≤ sizeLine; decide), fun cm nc => ⟨[.ref x], [.ref cm], rfl, rfl, (by show 1 ≤ sizeLine; decide), fun T8 n8 => ?_⟩⟩
    have sc := same_new (o := .tup [V.str (Str.ofString "condition"), tx n00, V.str (Str.ofString "match()")]) nc
    have s8 := same_new (o := .tup [V.ref cm]) n8
    have s78 := sc.trans s8
    refine ⟨x, P, A, T8, cm, b4, n00, Cnd.cTx (.mat []), .cd (.mat []), rfl, upd_same, B12.same s78, hg4, by omega, by omega, s8 _ _ upd_same, hnn n00 (List.mem_of_getElem? e00), mat_ok, (by decide), mat_sz, mat_no, (fun e' z => by rw [look00] at z; cases z; rfl), fun _ H13 A13 k13 nA13 B13 => ?_, fun z => by rw [look00] at z; cases z⟩
    refine ⟨(by show 2 ≤ sizeLine; decide), fun t nt => ⟨(by show 2 ≤ sizeLine; decide), fun t14 nt14 => ?_⟩⟩
    have st := same_new (o := .tup [V.str (Str.ofString "value"), V.non]) nt
    have s14 := same_new (o := .tup [V.str (Str.ofString "value"), V.non]) nt14
    refine ⟨.tuple [.str (Str.ofString "value"), .none], .tuple [.str (Str.ofString "value"), .none], pr_n (s14 _ _ upd_same), pr_n upd_same, sh_n cl_va, sh_n cl_va, ?_⟩
    rw [SeqAt.eqv_refl _ (SeqAt.canLay_of_shaped (sh_n cl_va))]
    have k14 : ∀ d o, d ≠ x → d ≠ P → H12 d = some o → upd (upd H13 t (.tup [V.str (Str.ofString "value"), V.non])) t14 (.tup [V.str (Str.ofString "value"), V.non]) d = some o := fun d o n1 n2 z => s14 _ _ (st _ _ (k13 _ _ n1 n2 (s78 _ _ z)))
    refine q _ (fun d o nt n1 n2 n3 z => k14 _ _ n1 n2 (kx2 _ _ (k11 _ _ nt n1 n2 n3 z) nt)) ?_
    exact tabsN_chgB B12 t12 fun d o n1 n2 _ z => k14 d o n1 n2 z
end
end Own

namespace Own
open PySem PySem.Spec PyProof.Rows L2 SX RZ
def spLaw (K : PySem.W.Frag) (tb tb2 : Addr) : Sp := fun vs H Q _ => ∃ (a : Addr) (ns : List Int), vs = [.ref a] ∧ SqL K H a (ns.map V.int) ∧ H tb = some (.tbl #[]) ∧ H tb2 = some (.tbl #[]) ∧ ∀ H', Q (.bl true) H'
theorem look_putE {es : Es} {n k : List Nat} {e : Mng} : lookE (putE es n e) k = if n = k then some e else lookE es k := by
  have hf : ((fun x : List Nat × Mng => decide (x.1 = k)) ∘ fun x : List Nat × Mng => if x.1 = n then (x.1, e) else x) = fun x : List Nat × Mng => decide (x.1 = k) := by
    funext x
    show decide ((if x.1 = n then (x.1, e) else x).1 = k) = _
    by_cases z : x.1 = n
    · rw [if_pos z]
    · rw [if_neg z]
  unfold putE lookE
  by_cases z : (es.any fun x => decide (x.1 = n)) = true
  · rw [if_pos z, List.find?_map, hf]
    obtain ⟨y, hy, hyn⟩ := List.any_eq_true.mp z
    by_cases q : n = k
    · subst q
      rw [if_pos rfl]
      cases h : es.find? fun x => decide (x.1 = n) with
      | none =>
        have := List.find?_eq_none.mp h y hy
        exact absurd hyn this
      | some w =>
        have hw := List.find?_some h
        have hw : w.1 = n := of_decide_eq_true hw
        show some (if w.1 = n then (w.1, e) else w).2 = some e
        rw [if_pos hw]
    · rw [if_neg q]
      cases h : es.find? fun x => decide (x.1 = k) with
      | none => rfl
      | some w =>
        have hw := List.find?_some h
        have hw : w.1 = k := of_decide_eq_true hw
        show some (if w.1 = n then (w.1, e) else w).2 = some w.2
        rw [if_neg (fun r => q (by rw [← r, hw]))]
  · rw [if_neg z, List.find?_append]
    by_cases q : n = k
    · subst q
      rw [if_pos rfl]
      have : (es.find? fun x => decide (x.1 = n)) = none := List.find?_eq_none.mpr fun y hy r => z (List.any_eq_true.mpr ⟨y, hy, r⟩)
      rw [this, List.find?_cons, decide_eq_true (show (n, e).1 = n from rfl)]
      rfl
    · rw [if_neg q, List.find?_cons, decide_eq_false (show ¬ (n, e).1 = k from q), List.find?_nil, Option.or_none]
def Ks (now : Es) (ns : List (List Nat)) (m : Nat) : Prop := ∀ (k : Nat) n, ns[k]? = some n → (k < m → ∃ c, lookE now n = some (.cd c)) ∧ (m ≤ k → lookE now n = none)
theorem nd_at {ns : List (List Nat)} (h : ns.Nodup) {i j : Nat} {n : List Nat} (h1 : ns[i]? = some n) (h2 : ns[j]? = some n) : i = j := by
  have hi : i < ns.length := by
    by_cases z : i < ns.length
    · exact z
    · rw [List.getElem?_eq_none (by omega)] at h1; cases h1
  exact (List.getElem?_inj hi h).mp (h1.trans h2.symm)
theorem Ks.add {now : Es} {ns : List (List Nat)} {m : Nat} {n : List Nat} {c : Cnd.Cd} (h : Ks now ns m) (hd : ns.Nodup) (hm : ns[m]? = some n) : Ks (putE now n (.cd c)) ns (m + 1) := by
  intro k n' hk
  rw [look_putE]
  by_cases z : n = n'
  · have e := nd_at hd hm (by rw [hk, z] : ns[k]? = some n)
    rw [if_pos z]
    exact ⟨fun _ => ⟨_, rfl⟩, fun q => by omega⟩
  · rw [if_neg z]
    have ne : k ≠ m := fun e => z (by rw [e, hm] at hk; cases hk; rfl)
    exact ⟨fun q => (h k n' hk).1 (by omega), fun q => (h k n' hk).2 (by omega)⟩
/-- what the end of a turn asks of the names -/
structure K2 (now : Es) (ns : List (List Nat)) (many : Nat) : Prop where
  z : ∀ n, ns[12]? = some n → lookE now n = none
  h : many ≠ 0 → ∀ n, ns[0]? = some n → ∃ c, lookE now n = some (.cd c)
theorem Ks.k2 {now : Es} {ns : List (List Nat)} {m : Nat} (h : Ks now ns m) (hm : m ≤ 12) : K2 now ns m := ⟨fun n hn => (h _ n hn).2 hm, fun q n hn => (h _ n hn).1 (by omega)⟩
theorem Ks.k2p {now : Es} {ns : List (List Nat)} {m : Nat} {n : List Nat} {e : Mng} (h : Ks now ns m) (hd : ns.Nodup) (hm : m < 12) (hn : ns[m]? = some n) : K2 (putE now n e) ns m := by
  refine ⟨fun n' hn' => ?_, fun q n' hn' => ?_⟩
  · rw [look_putE, if_neg fun z => by have := nd_at hd hn (by rw [hn', z] : ns[12]? = some n); omega]
    exact (h _ n' hn').2 (by omega)
  · rw [look_putE, if_neg fun z => by have := nd_at hd hn (by rw [hn', z] : ns[0]? = some n); omega]
    exact (h _ n' hn').1 (by omega)
theorem K2.put {now : Es} {ns : List (List Nat)} {m : Nat} {n : List Nat} {c : Cnd.Cd} (h : K2 now ns m) (hd : ns.Nodup) (hn : ns[0]? = some n) : K2 (putE now n (.cd c)) ns m := by
  refine ⟨fun n' hn' => ?_, fun q n' hn' => ?_⟩
  · rw [look_putE, if_neg fun z => by have := nd_at hd hn (by rw [hn', z] : ns[12]? = some n); omega]
    exact h.z n' hn'
  · rw [hn] at hn'
    cases hn'
    rw [look_putE, if_pos rfl]
    exact ⟨_, rfl⟩
/-- the steps of a book that was only added to -/
structure Bf (b : Bk) (k : Nat) : Prop where
  ah : b.ahead = []
  hd : b.line.head? = some []
  pl : b.past.length ≤ k
theorem Bf.push {b : Bk} {k : Nat} {es : Es} (h : Bf b k) : Bf { b with now := es, past := b.past ++ [b.now], ahead := [] } (k + 1) := by
  refine ⟨rfl, ?_, ?_⟩
  · have := h.hd
    unfold Bk.line at this
    rw [h.ah] at this
    have this : (b.past ++ [b.now]).head? = some [] := this
    show ((b.past ++ [b.now]) ++ [es]).head? = some []
    rw [List.head?_append, this]
    rfl
  · have := h.pl
    show (b.past ++ [b.now]).length ≤ _
    rw [List.length_append]
    show b.past.length + 1 ≤ k + 1
    omega
theorem Bf.cap {b : Bk} {k m : Nat} (h : Bf b k) : Bf { b with most := m } k := ⟨h.ah, h.hd, h.pl⟩
structure Wb (tb tb2 C r l x P A L : Addr) (gs : List Nat) (ns : List (List Nat)) (b : Bk) (H : Hp) : Prop where
  rng : RngL H r l
  tab : NdefX.TabsN (T77 tb tb2) H
  bk : BkH H C x P A b
  eg : b.gs = gs
  nm : H L = some (.lst (ns.map tx))
  nd : r ≠ P ∧ r ≠ A ∧ r ≠ L ∧ l ≠ P ∧ l ≠ A ∧ P ≠ L ∧ A ≠ L
section
variable {tb tb2 C r l x P A L : Addr} {gs : List Nat} {ns : List (List Nat)} {b : Bk} {H H' : Hp}
theorem Wb.rg (W : Wb tb tb2 C r l x P A L gs ns b H) : Rng H r := ⟨l, W.rng⟩
theorem Wb.same (W : Wb tb tb2 C r l x P A L gs ns b H) (s : Same H H') : Wb tb tb2 C r l x P A L gs ns b H' :=
  ⟨W.rng.same s, tabsN_same W.tab s, W.bk.same s, W.eg, s _ _ W.nm, W.nd⟩
theorem Wb.ext (W : Wb tb tb2 C r l x P A L gs ns b H) (e : ∀ d o, H d = some o → (∀ ps, o ≠ .tbl ps) → H' d = some o) (t : NdefX.TabsN (T77 tb tb2) H') : Wb tb tb2 C r l x P A L gs ns b H' := by
  refine ⟨?_, t, W.bk.ext e, W.eg, e _ _ W.nm (fun _ z => nomatch z), W.nd⟩
  obtain ⟨ns, i, b, s, c, h0, h1, h2⟩ := W.rng
  exact ⟨ns, i, b, s, c, h0, e _ _ h1 (fun _ z => nomatch z), e _ _ h2 (fun _ z => nomatch z)⟩
/-- the book is changed -/
theorem Wb.chg (W : Wb tb tb2 C r l x P A L gs ns b H) {A' : Addr} {b' : Bk} (g : ∀ d o, d ≠ x → d ≠ P → H d = some o → H' d = some o) (hA : A' = A ∨ H A' = none) (B : BkH H' C x P A' b') (hb : b'.gs = b.gs) : Wb tb tb2 C r l x P A' L gs ns b' H' := by
  obtain ⟨n1, n2, n3, n4, n5, n6, n7⟩ := W.nd
  obtain ⟨ms, i, bb, s, c, h0, h1, h2⟩ := W.rng
  obtain ⟨⟨dx, D, KD, n, e1, _⟩, ⟨vs, e2, _⟩, ⟨ws, e3, _⟩, _⟩ := id W.bk
  refine ⟨⟨ms, i, bb, s, c, h0, g _ _ (ne_of h1 e1 fun z => nomatch z) n1 h1, g _ _ (ne_of h2 e1 fun z => nomatch z) n4 h2⟩, ?_, B, hb.trans W.eg, g _ _ (ne_of W.nm e1 fun z => nomatch z) n6.symm W.nm, ?_⟩
  · exact tabsN_chgB W.bk W.tab fun d o a1 a2 _ z => g d o a1 a2 z
  · rcases hA with rfl | hA
    · exact ⟨n1, n2, n3, n4, n5, n6, n7⟩
    · exact ⟨n1, ne_of_none h1 hA, n3, n4, ne_of_none h2 hA, n6, (ne_of_none W.nm hA).symm⟩
theorem bkH_go {H H' : Hp} {C x P A r : Addr} {b : Bk} (h : BkH H C x P A b) (g : Go r H H') (n1 : r ≠ P) (n2 : r ≠ A) : BkH H' C x P A b := by
  obtain ⟨xr, er⟩ := g.rng0.ex
  obtain ⟨⟨dx, D, KD, n, h1, h2⟩, ⟨vs, h3, h4⟩, ⟨ws, h5, h6⟩, ne⟩ := h
  have kd : ∀ c kvs, H c = some (.dK kvs) → H' c = some (.dK kvs) := fun c kvs z => g.1 _ _ (ne_of z er fun q => nomatch q) z
  have kt : ∀ c xs, H c = some (.tup xs) → H' c = some (.tup xs) := fun c xs z => g.1 _ _ (ne_of z er fun q => nomatch q) z
  exact ⟨⟨dx, D, KD, n, g.1 _ _ (ne_of h1 er fun q => nomatch q) h1, h2.keep kd kt⟩, ⟨vs, g.1 _ _ n1.symm h3, Paired.mapP h4 fun _ _ z => z.keep kd kt⟩, ⟨ws, g.1 _ _ n2.symm h5, Paired.mapP h6 fun _ _ z => z.keep kd kt⟩, ne⟩
theorem rngL_go {H H' : Hp} {r l : Addr} (h : RngL H r l) (g : Go r H H') : RngL H' r l := by
  obtain ⟨l', a, b⟩ := g.2
  rw [a.inj h] at b
  exact b
theorem Wb.go (W : Wb tb tb2 C r l x P A L gs ns b H) (g : Go r H H') : Wb tb tb2 C r l x P A L gs ns b H' :=
  ⟨rngL_go W.rng g, tabsN_go W.tab g, bkH_go W.bk g W.nd.1 W.nd.2.1, W.eg, g.1 _ _ W.nd.2.2.1.symm W.nm, W.nd⟩
end
/-- the condition match(.) -/
theorem dot_ok {gs : List Nat} (hg : Good gs) : MnTx gs (.cd (.mat [46])) (Cnd.cTx (.mat [46])) := ⟨rfl, .mat (Cnd.Pat.one hg.az (.inr (.inl rfl))) (by decide), by decide⟩
theorem dot_sz : MngSz (.cd (.mat [46])) := ⟨by decide, by decide⟩
theorem dot_no : NoNm (.cd (.mat [46])) := ⟨by decide, rfl, by decide⟩
abbrev skP : Mng := .pg (.leaf .skip .nil)
theorem sk_ok {gs : List Nat} : MnTx gs skP (Prg.pTx (.leaf .skip .nil)) := ⟨rfl, ⟨trivial, trivial⟩, rfl⟩
theorem sk_sz : MngSz skP := ⟨by decide, trivial, by decide⟩
theorem sk_no : NoNm skP := ⟨by decide, by decide, by decide⟩
/-- Book(letters) -/
theorem bk_mk {C CL CI : Addr} {σ : L2.St} {H : Hp} {Q : VK} {ta : TA} {gs : List Nat} (h : ∀ k : List V → Hp → Prop, (∀ H1, Same H H1 → k [tx gs] H1) → ta σ H k) (hg : Good gs)
    (q : ∀ H' x P A, Same H H' → H x = none → H P = none → H A = none → P ≠ x → A ≠ x → BkH H' C x P A ⟨gs, 12, [], [], []⟩ → Q (.ref x) H') : tMake C (spBkI C CL CI) [.int 12] E0 ta σ H Q := by
  refine h _ fun H1 s1 x dx nx nd ne => ?_
  have back : ∀ {y : Addr}, H1 y = none → H y = none := fun {y} n => by
    cases e : H y with
    | none => rfl
    | some o => rw [s1 _ _ e] at n; cases n
  have back2 : ∀ {y : Addr}, upd (upd H1 dx (.own x)) x (.ins C dx []) y = none → H y = none := fun {y} n => back (by
    by_cases z : y = x
    · rw [z, upd_same] at n; cases n
    · rw [upd_ne z] at n
      by_cases z2 : y = dx
      · rw [z2, upd_same] at n; cases n
      · rw [upd_ne z2] at n; exact n)
  have hlen : gs.length ≤ 900 := by have := hg.hi; omega
  refine ⟨x, dx, gs, 12, rfl, upd_same, hlen, fun hv _ _ H' P A k nP nA Px Ax B => ⟨rfl, q H' x P A (fun c o e => ?_) (back nx) (back2 nP) (back2 nA) Px Ax B⟩, fun _ z => by omega, fun z => absurd (valid_good hg) z⟩
  have e1 := s1 _ _ e
  refine k c o (ne_of_none e1 nx) ?_
  rw [upd_ne (ne_of_none e1 nx), upd_ne (ne_of_none e1 nd)]
  exact e1
theorem not_valid_a : ¬ Valid [97] := by
  intro h
  have := h.1
  exact absurd this (by decide)
theorem tup_first {t : TE} {u : TA} {σ : L2.St} {H : Hp} {Q : VK} (h : t σ H fun x H1 => u σ H1 fun xs H2 => (x :: xs).length ≤ sizeLine ∧ ∀ p, H2 p = none → Q (.ref p) (upd H2 p (.tup (x :: xs)))) : tTup (tCons t u) σ H Q := h
theorem same_mk {H1 H' : Hp} {C x dx : Addr} (nx : H1 x = none) (nd : H1 dx = none) (k : ∀ c o, c ≠ x → upd (upd H1 dx (.own x)) x (.ins C dx []) c = some o → H' c = some o) : Same H1 H' := fun c o e => by
  refine k c o (ne_of_none e nx) ?_
  rw [upd_ne (ne_of_none e nx), upd_ne (ne_of_none e nd)]
  exact e
theorem pow9 : (12 : Int) < (10 : Int) ^ ((9 : Int).toNat) := by decide
theorem kb_sc {K : PySem.W.Frag} {f : Addr} {fd : FuncData} (F : Fun K "set_capacity" "Book.set_capacity" sSc f fd) : KBn K fd ["self", "most"] 1 ["most"] onC onC := by
  refine ⟨fun s us ws _ h1 h2 => ?_, fun r z => r.append z⟩
  obtain ⟨oc, od, kV, doc, pm, an, cdv, ct, osl, rfl, lk, hcd⟩ := F.ex
  match us, ws, h1, h2 with
  | [a], [b], _, _ => exact .of_eq rfl
section
variable {P : Program} {w : World} {K : PySem.W.Frag} {mg : Str → Option Value} {base : Heap}
variable {f1 f2 f3 f4 f5 f6 f7 f8 fI fP fY q1 h1 fLn fSc fAp fUn fRe fHi CF CM CL CI C c tb tb2 : Addr} {fd1 fd2 fd3 fd4 fd5 fd6 fd7 fd8 fdI fdP fdY hd1 fdLn fdSc fdUn fdRe fdHi : FuncData}
theorem ok_law {f : Addr} {kV doc pm ct oc : Value} {an od : Option Addr} {osl : Array (Option Value)} {dsI : List Value}
    (lk : K.lookup f = some ⟨oc, od, .func (PySem.W.fnOf "law" "law" (defArgs sLaw) (defBody sLaw) (defScope sLaw) .none kV doc pm an (.ref c) ct), osl⟩) (hcd : PySem.W.codeIn K (.ref c) "law" = true)
    (TB : LamX.TabB base mg c tb) (tn : tb ≠ tb2) (m_int : mg "int" = none) (m_len : mg "len" = none) (m_max : mg "max" = none) (m_range : mg "range" = none) (gMn : ∃ t, mg "MOST_NAMES" = some (.int 12 t)) (T : BkC K C)
    (PC : PropOf K C "capacity" q1 h1) (GC : FnOk P w K mg base CX0 1 h1 hd1 ["self"] (spCap C)) (bC : Binds K hd1 ["self"] [])
    (OLn : DunOf K C "__len__" fLn) (GLn : FnOk P w K mg base CX0 1 fLn fdLn ["self"] (spBln C)) (bLn : Binds K fdLn ["self"] [])
    (mSc : Meth K C "set_capacity" fSc) (GSc : FnOk P w K mg base (L2.CX P w) 3 fSc fdSc ["self", "most"] (spSc C CL)) (kSc : KBn K fdSc ["self", "most"] 1 ["most"] onC onC) (bSc : Binds K fdSc ["self", "most"] [])
    (mAp : Meth K C "apply" fAp) (GAp : FnR P w K mg base (L2.CX P w) 14 fAp (fun vs H Q E => ∃ ws rest, vs = ws ++ rest ∧ ws.length = [("self" : Str)].length ∧ rest.length ≤ PySem.sizeLine ∧ ∀ (p : Addr), H p = none → spAp1 C CL (ws ++ [V.ref p]) (upd H p (.tup rest)) Q E))
    (mUn : Meth K C "undo" fUn) (GUn : FnOk P w K mg base CX0 1 fUn fdUn ["self"] (spUnd C)) (bUn : Binds K fdUn ["self"] [])
    (mRe : Meth K C "redo" fRe) (GRe : FnOk P w K mg base CX0 1 fRe fdRe ["self"] (spRed C)) (bRe : Binds K fdRe ["self"] [])
    (mHi : Meth K C "history" fHi) (GHi : FnOk P w K mg base CX0 1 fHi fdHi ["self"] (spBhi C)) (bHi : Binds K fdHi ["self"] [])
    (M : Mk K C fI) (gC : mg "Book" = some (.ref C)) (GI : FnOk P w K mg base (L2.CX P w) 4 fI fdI ["self", "letters", "capacity"] (spBkI C CL CI)) (bI : Binds K fdI ["self", "letters", "capacity"] dsI) (vI : Vals [.int 12] dsI) (kI : KBn K fdI ["self", "letters", "capacity"] 2 ["capacity"] onC onC)
    (mF : mg "FillError" = some (.ref CF)) (mM : mg "Missing" = some (.ref CM))
    (FP : FnP P w K mg base 1 fP fdP ["_law_e"] (spFldN K)) (gP : mg "_law_field" = some (.ref fP)) (kP : PySem.W.keepIn K (.ref fP) = true) (bP : Binds K fdP ["_law_e"] [])
    (FY : Fun K "_law_try" "_law_try" sTry fY fdY) (gY : mg "_law_try" = some (.ref fY)) (bY : Binds K fdY ["_law_ask"] [])
    (EL : ErrC K mg "LimitReached" CL) (xL : PySem.W.exmAny K (.ref CL) [.ref CF, .ref CM] = some true) (nL : PySem.W.findIn K (.ref CL) "limit" = some none) (EI : ErrC K mg "InvalidLetters" CI) (xI : PySem.W.exmAny K (.ref CI) [.ref CF, .ref CM] = some true)
    (cDs : Cl P w K mg base "_law_draws" 1 ["_law_script"] (spDraws K) f1 fd1)
    (cLt : Cl P w K mg base "_law_letters" 3 ["_law_rng", "_law_my_most"] spLetters f2 fd2)
    (cNm : Cl P w K mg base "_law_names" 3 ["_law_rng", "_law_many"] spNam f3 fd3)
    (cSm : Cl P w K mg base "_law_same" 3 ["_law_found", "_law_due"] (spSm K 3) f4 fd4)
    (cDr : Cl P w K mg base "_law_draw" 1 ["_law_rng", "_law_sides"] spDraw f5 fd5)
    (cPk : Cl P w K mg base "_law_pick" 2 ["_law_rng", "_law_things"] (spPick K) f6 fd6)
    (cBy : Cl P w K mg base "_law_beyond_capacity" 18 ["_law_book", "_law_names_here", "_law_many", "_law_size"] (spBey C (T77 tb tb2)) f7 fd7) :
    FnOk P w K mg base CX0 20 f (PySem.W.fnOf "law" "law" (defArgs sLaw) (defBody sLaw) (defScope sLaw) .none kV doc pm an (.ref c) ct) ["_law_script"] (spLaw K tb tb2) := by
  obtain ⟨ocY, odY, kVY, docY, pmY, anY, cdY, ctY, oslY, rfl, lkY, hcY⟩ := FY.ex
  obtain ⟨tMn, eMn⟩ := gMn
  refine fn_of lk hcd scLaw (fun vs H Q E h => ?_) (fun A outer s H vs Q E hr h => ?_)
  · obtain ⟨a, ns, rfl, _⟩ := h
    rfl
  · obtain ⟨a, ns, rfl, hS, htb, htb2, q⟩ := h
    refine ⟨_, (pss_cons (ps_set (i := 1) scLaw.nd rfl (by first | exact .inl rfl | exact .inr rfl) (pe_cl cDs hr (by decide) (by rfl) (pa_cons (pv 0) pa_nil)))
      (pss_cons (ps_for (passes_of rfl) rfl (pi_range1 rfl m_range (pa_cons pe_int pa_nil)) (pg_name (i := 2) scLaw.nd rfl (by first | exact .inl rfl | exact .inr rfl))
        (pss_cons (ps_asg (pe_tup (pa_cons (pe_cl cLt hr (by decide) (by rfl) (pa_cons (pv 1) (pa_cons pe_int pa_nil))) (pa_cons (pe_cl cDr hr (by decide) (by rfl) (pa_cons (pv 1) (pa_cons pe_int pa_nil))) pa_nil))) (pg_tup rfl (pgs_cons (pg_name (i := 10) scLaw.nd rfl (by first | exact .inl rfl | exact .inr rfl)) (pgs_cons (pg_name (i := 11) scLaw.nd rfl (by first | exact .inl rfl | exact .inr rfl)) pgs_nil))))
      (pss_cons (ps_asg (pe_tup (pa_cons (pe_make M GI (hr.mono (by decide)) (by rfl) gC bI vI (passE0 rfl rfl) (pa_cons (pv 10) pa_nil)) (pa_cons (pe_cl cNm hr (by decide) (by rfl) (pa_cons (pv 1) (pa_cons pe_int pa_nil))) pa_nil))) (pg_tup rfl (pgs_cons (pg_name (i := 9) scLaw.nd rfl (by first | exact .inl rfl | exact .inr rfl)) (pgs_cons (pg_name (i := 12) scLaw.nd rfl (by first | exact .inl rfl | exact .inr rfl)) pgs_nil))))
      (C8.pss_cut (ps_for (passes_of rfl) rfl (pi_list (pe_slice sl_list (pv 12) po_none (po_some (pv 11)))) (pg_name (i := 3) scLaw.nd rfl (by first | exact .inl rfl | exact .inr rfl))
        (pss_one (ps_expr (pe_methR (pv 9) T.cls mAp GAp (hr.mono (by decide)) (passE0 rfl rfl) (pa_cons (pe_tup (pa_cons pe_str (pa_cons (pv 3) (pa_cons pe_str pa_nil)))) pa_nil)))))
      (pss_cons (ps_if (pt_not (pt_val (pe_cl cSm hr (by decide) (by rfl) (pa_cons (pe_lst (pa_cons (pe_prop (pv 9) T.cls PC GC (hr.mono (by decide)) bC .nil pass0 (by rfl)) (pa_cons (pe_callB (call_lenO GLn OLn bLn pass0 (hr.mono (by decide))) (by rfl) m_len PySem.boot_len (pa_cons (pv 9) pa_nil)) pa_nil))) (pa_cons (pe_lst (pa_cons pe_int (pa_cons (pv 11) pa_nil))) pa_nil))))) pss_never pss_nil)
      (pss_cons (ps_set (i := 4) scLaw.nd rfl (by first | exact .inl rfl | exact .inr rfl) pe_int)
      (C8.pss_cut (ps_for (passes_of rfl) rfl (pi_range1 rfl m_range (pa_cons pe_int pa_nil)) (pg_name (i := 5) scLaw.nd rfl (by first | exact .inl rfl | exact .inr rfl))
        (pss_cons (ps_set (i := 14) scLaw.nd rfl (by first | exact .inl rfl | exact .inr rfl) (pe_cl cPk hr (by decide) (by rfl) (pa_cons (pv 1) (pa_cons (pe_lst (pa_cons (pv 11) (pa_cons (pe_op op_sub (pv 11) pe_int) (pa_cons (pe_op op_add (pv 11) pe_int) (pa_cons pe_int (pa_cons pe_int (pa_cons pe_int (pa_cons pe_int (pa_cons (pe_cl cDr hr (by decide) (by rfl) (pa_cons (pv 1) (pa_cons pe_int pa_nil))) pa_nil))))))))) pa_nil))))
      (pss_cons (ps_set (i := 6) scLaw.nd rfl (by first | exact .inl rfl | exact .inr rfl) (pe_tryE (TT := TryN K CF CM) (k := 15) (by rfl) gY FY.kp (pe_lamVN (T := T77 tb tb2) (nm := nmL) TB rfl (List.Mem.head _) (by rfl) (hu77 (tb := tb) (tb2 := tb2) tn) (LamN.free (lamN_by (by show lamNB lawN (defScope sLaw) _ = true; decide +kernel))) rfl) lkY hcY bY scTry rfl (Or.inl rfl) (try_gives mF mM FP gP kP bP (hr.mono (by decide))) (hr.mono (by decide))))
      (pss_cons (ps_set (i := 7) scLaw.nd rfl (by first | exact .inl rfl | exact .inr rfl) (pe_chain op_le op_le (pe_callB (call_max2 rfl) (by rfl) m_max (by decide +kernel) (pa_cons pe_int (pa_cons (pv 11) pa_nil))) (pv 14) pe_int))
      (pss_cons (ps_set (i := 4) scLaw.nd rfl (by first | exact .inl rfl | exact .inr rfl) (pe_ifExp (pt_val (pv 7)) (pv 14) (pv 4)))
      (pss_one (ps_if (PW.pt (pw_or (pt_cmpR (op_neD hr.units) (pv 6) (pe_ifExp (pt_val (pv 7)) (pe_tup (pa_cons pe_str (pa_cons pe_non pa_nil))) (pe_tup (pa_cons pe_str (pa_cons pe_int pa_nil)))) (nomark _)) (pw_or1 (pt_cmpR op_ne (pe_prop (pv 9) T.cls PC GC (hr.mono (by decide)) bC .nil pass0 (by rfl)) (pv 4) (nomark _))))) pss_never pss_nil)))))))
      (C8.pss_cut (ps_set (i := 6) scLaw.nd rfl (by first | exact .inl rfl | exact .inr rfl) (pe_tryE (TT := TryN K CF CM) (k := 15) (by rfl) gY FY.kp (pe_lamVN (T := T77 tb tb2) (nm := nmL) TB rfl (List.Mem.head _) (by rfl) (hu77 (tb := tb) (tb2 := tb2) tn) (LamN.free (lamN_by (by show lamNB lawN (defScope sLaw) _ = true; decide +kernel))) rfl) lkY hcY bY scTry rfl (Or.inl rfl) (try_gives mF mM FP gP kP bP (hr.mono (by decide))) (hr.mono (by decide))))
      (C8.pss_cut (ps_if (pt_cmpR (op_neD hr.units) (pv 6) (pe_ifExp (pt_cmpR op_lt (pv 11) (pv 4) (nomark _)) (pe_tup (pa_cons pe_str (pa_cons pe_non pa_nil))) (pe_tup (pa_cons pe_str (pa_cons (pv 4) pa_nil)))) (nomark _)) pss_never pss_nil)
      (C8.pss_cut (ps_if (PW.pt (pw_and (pt_cmpR op_gt (pv 11) pe_int (nomark _)) (pw_and1 (pt_cmpR op_ne (pe_ix (ixT (K := K) rfl) (pe_tryE (TT := TryN K CF CM) (k := 15) (by rfl) gY FY.kp (pe_lamVN (T := T77 tb tb2) (nm := nmL) TB rfl (List.Mem.head _) (by rfl) (hu77 (tb := tb) (tb2 := tb2) tn) (LamN.free (lamN_by (by show lamNB lawN (defScope sLaw) _ = true; decide +kernel))) rfl) lkY hcY bY scTry rfl (Or.inl rfl) (try_gives mF mM FP gP kP bP (hr.mono (by decide))) (hr.mono (by decide))) pe_int (fun _ _ => rfl)) pe_str (nomark _))))) pss_never pss_nil)
      (pss_cons (ps_if (pt_not (pt_val (pe_cl cBy hr (by decide) (by rfl) (pa_cons (pv 9) (pa_cons (pv 12) (pa_cons (pv 11) (pa_cons (pe_op op_add (pv 11) (pe_callTy call_int1 (by rfl) m_int (by decide +kernel) (pa_cons (pe_cmpR op_lt (pv 11) (pv 4) (nomark _)) pa_nil))) pa_nil))))))) pss_never pss_nil)
      (pss_cons (ps_set (i := 13) scLaw.nd rfl (by first | exact .inl rfl | exact .inr rfl) (pe_cl cPk hr (by decide) (by rfl) (pa_cons (pv 1) (pa_cons (pe_lst (pa_cons pe_int (pa_cons (pe_un un_neg pe_int) (pa_cons pe_int (pa_cons (pe_op op_pow pe_int pe_int) pa_nil))))) pa_nil))))
      (pss_one (ps_if (pt_cmpR (op_neD hr.units) (pe_tryE (TT := TryN K CF CM) (k := 15) (by rfl) gY FY.kp (pe_lamVN (T := T77 tb tb2) (nm := nmL) TB rfl (List.Mem.head _) (by rfl) (hu77 (tb := tb) (tb2 := tb2) tn) (LamN.free (lamN_by (by show lamNB lawN (defScope sLaw) _ = true; decide +kernel))) rfl) lkY hcY bY scTry rfl (Or.inl rfl) (try_gives mF mM FP gP kP bP (hr.mono (by decide))) (hr.mono (by decide))) (pe_tup (pa_cons pe_str (pa_cons pe_int pa_nil))) (nomark _)) pss_never pss_nil))))))))))))))
      (pss_cons (ps_set (i := 8) scLaw.nd rfl (by first | exact .inl rfl | exact .inr rfl) (pe_tryE (TT := TryN K CF CM) (k := 15) (by rfl) gY FY.kp (pe_lamVN (T := T77 tb tb2) (nm := nmL) TB rfl (List.Mem.head _) (by rfl) (hu77 (tb := tb) (tb2 := tb2) tn) (LamN.free (lamN_by (by show lamNB lawN (defScope sLaw) _ = true; decide +kernel))) rfl) lkY hcY bY scTry rfl (Or.inl rfl) (try_gives mF mM FP gP kP bP (hr.mono (by decide))) (hr.mono (by decide))))
      (pss_one (ps_ret (L2.pe_and (pe_cmpR (op_eqD hr.units) (pv 8) (pe_tup (pa_cons pe_str (pa_cons pe_non pa_nil))) (nomark _)) (L2.pe_and (pe_cmpR op_eq (pe_glob (v := .int 12) (by rfl) eMn ⟨_, rfl⟩) pe_int (nomark _)) (pe_one (pe_cmpR op_eq (pe_prop (pe_makeK M GI (hr.mono (by decide)) (by rfl) gC kI (passE0 rfl rfl) (pa_cons pe_str pa_nil) (pk_cons pe_int pk_nil)) T.cls PC GC (hr.mono (by decide)) bC .nil pass0 (by rfl)) pe_int (nomark _)))))))))), ?_⟩
    refine ⟨_, rfl, a, ns, rfl, hS, fun H1 r s1 nr R => ?_⟩
    have t1 : NdefX.TabsN (T77 tb tb2) H1 := fun p hp => by
      rcases List.mem_cons.mp hp with rfl | hp
      · exact NdefX.TabN.nil (s1 _ _ htb)
      · rw [List.mem_singleton.mp hp]; exact NdefX.TabN.nil (s1 _ _ htb2)
    have sz : ∀ n : Nat, n ≤ 2000 → n ≤ sizeLine := fun n hn => by rw [sizeLine_eq]; omega
    refine ⟨3, rfl, by decide, by decide, ?_⟩
    refine for_range (lo := 0) (n := (3 : Int).toNat) (fun i σ H' => ∃ v2 v3 v4 v5 v6 v7 v8 v9 v10 v11 v12 v13 v14 : Option V, σ = [some (.ref a), some (.ref r), v2, v3, v4, v5, v6, v7, v8, v9, v10, v11, v12, v13, v14] ∧ Rng H' r ∧ NdefX.TabsN (T77 tb tb2) H')
      ⟨_, _, _, _, _, _, _, _, _, _, _, _, _, rfl, R, t1⟩ ?_ ?_
    · rintro i σ H2 hi ⟨v2, v3, v4, v5, v6, v7, v8, v9, v10, v11, v12, v13, v14, rfl, R2, t2⟩
      try dsimp only [gName, tSeq, tAsg, List.set_cons_zero, List.set_cons_succ]
      refine tup_first ?_
      refine ⟨_, rfl, r, 3, rfl, by decide, R2, fun H3 gs g3 hg hl3 => ?_⟩
      refine ⟨_, rfl, r, 13, rfl, by decide, by decide, g3.rng, fun H4 many g4 hm0 hm13 => ⟨by show 2 ≤ sizeLine; exact sz _ (by decide), fun p4 n4 => ?_⟩⟩
      have s5 := same_new (o := .tup [tx gs, V.int many]) n4
      refine ⟨p4, _, rfl, sqT upd_same, rfl, _, _, rfl, _, _, rfl, rfl, ?_⟩
      have t5 := tabsN_same (tabsN_go (tabsN_go t2 g3) g4) s5
      have R5 : Rng (upd H4 p4 (.tup [tx gs, V.int many])) r := g4.rng.same s5
      generalize upd H4 p4 (.tup [tx gs, V.int many]) = H5 at t5 R5 ⊢
      obtain ⟨m, rfl⟩ : ∃ m : Nat, many = (m : Int) := ⟨many.toNat, by omega⟩
      have hm : m ≤ 12 := by omega
      clear s5 n4 g3 g4
      try dsimp only [gName, tSeq, tAsg, List.set_cons_zero, List.set_cons_succ]
      refine tup_first ?_
      refine bk_mk (gs := gs) (fun k hk => ⟨_, rfl, hk _ (Same.refl _)⟩) hg fun H6 x P A s6 nx nP nA Px Ax B6 => ?_
      obtain ⟨l, Rl6⟩ := R5.same s6
      have t6 := tabsN_same t5 s6
      refine ⟨_, rfl, r, 13, rfl, by decide, ⟨l, Rl6⟩, fun H7 LL ns g7 nL hL hnl hnn hnd => ⟨by show 2 ≤ sizeLine; exact sz _ (by decide), fun p8 n8 => ?_⟩⟩
      have s8 := same_new (o := .tup [V.ref x, .ref LL]) n8
      refine ⟨p8, _, rfl, sqT upd_same, rfl, _, _, rfl, _, _, rfl, rfl, ?_⟩
      have W8 : Wb tb tb2 C r l x P A LL gs ns ⟨gs, 12, [], [], []⟩ (upd H7 p8 (.tup [V.ref x, .ref LL])) := by
        obtain ⟨lr, Rr⟩ := R5
        obtain ⟨⟨xr5, er5⟩, ⟨xl5, el5⟩⟩ := Rr.ex
        have lr : lr = l := (Rr.same s6).inj Rl6
        subst lr
        obtain ⟨⟨xr6, er6⟩, ⟨xl6, el6⟩⟩ := Rl6.ex
        obtain ⟨⟨dx, D, KD, n, e1, _⟩, ⟨vs, e2, _⟩, ⟨ws, e3, _⟩, _⟩ := id B6
        have rP := ne_of_none er5 nP
        have rA := ne_of_none er5 nA
        have lP := ne_of_none el5 nP
        have lA := ne_of_none el5 nA
        have rL := ne_of_none er6 nL
        have PL := ne_of_none e2 nL
        have AL := ne_of_none e3 nL
        have W7 : Wb tb tb2 C r _ x P A LL gs ns ⟨gs, 12, [], [], []⟩ H7 := ⟨rngL_go Rl6 g7, tabsN_go t6 g7, bkH_go B6 g7 rP rA, rfl, hL, rP, rA, rL, lP, lA, PL, AL⟩
        exact W7.same s8
      generalize upd H7 p8 (.tup [V.ref x, .ref LL]) = H8 at W8 ⊢
      clear s8 n8 g7 t6 t5 Rl6 B6 Px Ax nx nP nA s6 R5 nL hL
      try dsimp only [gName, tSeq, tAsg, List.set_cons_zero, List.set_cons_succ]
      refine ⟨fun σ H' => ∃ (v4 v5 v6 v7 v8 v13 v14 v3 : Option V) (A : Addr) (b : Bk), σ = [some (.ref a), some (.ref r), some (.int (0 + (i : Int))), v3, v4, v5, v6, v7, v8, some (.ref x), some (tx gs), some (iv m), some (.ref LL), v13, v14] ∧ Wb tb tb2 C r l x P A LL gs ns b H' ∧ Ks b.now ns m ∧ b.now.length = m ∧ b.most = 12 ∧ Bf b m, ?_, ?_⟩
      · refine ⟨_, rfl, _, rfl, _, rfl, LL, _, rfl, sqL W8.nm, fun KL nKL => ?_⟩
        have ec : cutV (ns.map tx) none (some (m : Int)) = (ns.take m).map tx := by
          rw [cut_to (by rw [List.length_map]; omega), List.map_take]
        rw [ec]
        refine ⟨KL, rfl, ⟨_, sqL upd_same⟩, ?_⟩
        have W9 := W8.same (same_new (o := .lst ((ns.take m).map tx)) nKL)
        have k9 : upd H8 KL (.lst ((ns.take m).map tx)) KL = some (.lst ((ns.take m).map tx)) := upd_same
        have d9 : KL ≠ x ∧ KL ≠ P := by
          obtain ⟨⟨dx, D, KD, n, e1, _⟩, ⟨vs, e2, _⟩, _⟩ := id W8.bk
          exact ⟨(ne_of_none e1 nKL).symm, (ne_of_none e2 nKL).symm⟩
        generalize upd H8 KL (.lst ((ns.take m).map tx)) = H9 at W9 k9 ⊢
        refine for_list (xs := (ns.take m).map tx) (fun k σ H' => ∃ (v4 v5 v6 v7 v8 v13 v14 v3 : Option V) (A : Addr) (b : Bk), σ = [some (.ref a), some (.ref r), some (.int (0 + (i : Int))), v3, v4, v5, v6, v7, v8, some (.ref x), some (tx gs), some (iv m), some (.ref LL), v13, v14] ∧ Wb tb tb2 C r l x P A LL gs ns b H' ∧ Ks b.now ns k ∧ b.now.length = k ∧ b.most = 12 ∧ Bf b k ∧ H' KL = some (.lst ((ns.take m).map tx)))
          ⟨_, _, _, _, _, _, _, _, A, _, rfl, W9, (fun k n _ => ⟨fun h => absurd h (Nat.not_lt_zero _), fun _ => rfl⟩), rfl, rfl, ⟨rfl, rfl, Nat.zero_le _⟩, k9⟩ (fun k σ H' _ h => ?_) ?_ ?_
        · obtain ⟨_, _, _, _, _, _, _, _, _, _, _, _, _, _, _, _, h⟩ := h
          exact sqL h
        · rintro k y σ H10 hk ⟨v4, v5, v6, v7, v8, v13, v14, v3, A, b, rfl, W, ks, hl, hc, hf, k10⟩
          try dsimp only [gName, tSeq, tAsg, tNext, List.set_cons_zero, List.set_cons_succ]
          rw [List.getElem?_map] at hk
          cases hn : (ns.take m)[k]? with
          | none => rw [hn] at hk; cases hk
          | some n =>
            rw [hn] at hk
            cases hk
            have hkm : k < m := by
              by_cases z : k < m
              · exact z
              · rw [List.getElem?_eq_none (by rw [List.length_take]; omega)] at hn; cases hn
            rw [List.getElem?_take_of_lt hkm] at hn
            obtain ⟨⟨dx, D, KD, nn, hx, _⟩, _⟩ := id W.bk
            refine ⟨_, rfl, x, dx, _, rfl, hx, rfl, _, rfl, (by show 3 ≤ sizeLine; decide), fun cm nc => ⟨[.ref x], [.ref cm], rfl, rfl, (by show 1 ≤ sizeLine; decide), fun T8 n8 => ?_⟩⟩
            have sc := same_new (o := .tup [V.str (Str.ofString "condition"), tx n, V.str (Str.ofString "match()")]) nc
            have s8 := same_new (o := .tup [V.ref cm]) n8
            have s78 := sc.trans s8
            have lk0 := (ks k n hn).2 (Nat.le_refl _)
            refine ⟨x, P, A, T8, cm, b, n, Cnd.cTx (.mat []), .cd (.mat []), rfl, upd_same, W.bk.same s78, by rw [W.eg]; exact hg, by omega, by have := hf.pl; omega, s8 _ _ upd_same, hnn n (List.mem_of_getElem? hn), mat_ok, (by decide), mat_sz, mat_no, (fun e' z => by rw [lk0] at z; cases z), (fun z H11 A11 k11 nA11 B11 => ?_), fun _ z => by omega⟩
            have W8' := W.same s78
            have W11 := W8'.chg k11 (.inr nA11) B11 rfl
            refine ⟨_, _, _, _, _, _, _, _, A11, _, rfl, W11, ks.add hnd hn, ?_, hc, hf.push, k11 _ _ d9.1 d9.2 (s78 _ _ k10)⟩
            show (putE b.now n (.cd (.mat []))).length = k + 1
            rw [putE_len, if_pos lk0, hl]
        · rintro σ H10 ⟨v4, v5, v6, v7, v8, v13, v14, v3, A, b, rfl, W, ks, hl, hc, hf, _⟩
          have el : ((ns.take m).map tx).length = m := by rw [List.length_map, List.length_take]; omega
          rw [el] at ks hl hf
          exact ⟨_, _, _, _, _, _, _, _, A, b, rfl, W, ks, hl, hc, hf⟩
      rintro σ H9 ⟨v4, v5, v6, v7, v8, v13, v14, v3, A9, b, rfl, W, ks, hl, hc, hf⟩
      clear W8
      obtain ⟨⟨dx, D, KD, nn, hx, _⟩, _⟩ := id W.bk
      refine ⟨_, rfl, x, dx, _, rfl, hx, x, P, A9, b, rfl, W.bk, _, rfl, x, dx, _, rfl, hx, x, P, A9, b, rfl, W.bk, b.now.length, rfl, by omega, (by show 2 ≤ sizeLine; decide), fun La nLa => ⟨_, rfl, (by show 2 ≤ sizeLine; decide), fun Lb nLb => ?_⟩⟩
      rw [hc, hl] at nLb ⊢
      have sa := same_new (o := .lst [iv 12, iv m]) nLa
      have sb := same_new (o := .lst [V.int 12, iv m]) nLb
      refine ⟨_, _, rfl, Eqd.lst (sb _ _ upd_same) upd_same (by show 2 ≤ 1000; decide) (fun y hy => ?_), fun H10 s10 => ⟨true, rfl, iteF ?_⟩⟩
      · simp only [List.mem_cons, List.not_mem_nil, or_false] at hy
        rcases hy with rfl | rfl <;> exact True.intro
      have W10 := W.same ((sa.trans sb).trans s10)
      clear W hx s10 sa sb nLa nLb
      try dsimp only [gName, tSeq, tAsg, tNext, List.set_cons_zero, List.set_cons_succ]
      refine ⟨fun σ H' => ∃ (v5 v6 v7 v8 v13 v14 v3 : Option V) (A : Addr) (b : Bk), σ = [some (.ref a), some (.ref r), some (.int (0 + (i : Int))), v3, some (iv b.most), v5, v6, v7, v8, some (.ref x), some (tx gs), some (iv m), some (.ref LL), v13, v14] ∧ Wb tb tb2 C r l x P A LL gs ns b H' ∧ Ks b.now ns m ∧ b.now.length = m ∧ 1 ≤ b.most ∧ m ≤ b.most ∧ b.most ≤ 12 ∧ Bf b m, ?_, ?_⟩
      · refine ⟨6, rfl, by decide, by decide, ?_⟩
        refine for_range (lo := 0) (n := (6 : Int).toNat) (fun _ σ H' => ∃ (v5 v6 v7 v8 v13 v14 v3 : Option V) (A : Addr) (b : Bk), σ = [some (.ref a), some (.ref r), some (.int (0 + (i : Int))), v3, some (iv b.most), v5, v6, v7, v8, some (.ref x), some (tx gs), some (iv m), some (.ref LL), v13, v14] ∧ Wb tb tb2 C r l x P A LL gs ns b H' ∧ Ks b.now ns m ∧ b.now.length = m ∧ 1 ≤ b.most ∧ m ≤ b.most ∧ b.most ≤ 12 ∧ Bf b m)
          ⟨_, _, _, _, _, _, _, A9, b, by rw [hc]; rfl, W10, ks, hl, by omega, by omega, by omega, hf⟩ ?_ ?_
        · rintro k σ H11 hk ⟨v5, v6, v7, v8, v13, v14, v3, A, b, rfl, W, ks, hl, h1, h2, h3, hf⟩
          try dsimp only [gName, tSeq, tAsg, tNext, List.set_cons_zero, List.set_cons_succ]
          refine ⟨_, rfl, _, rfl, _, rfl, _, _, rfl, rfl, _, rfl, _, _, rfl, rfl, _, rfl, r, 15, rfl, by decide, by decide, W.rg, fun H12 kk g12 _ _ => ⟨(by show 8 ≤ sizeLine; decide), fun Lw nLw => ?_⟩⟩
          have sw := same_new (o := .lst [iv m, V.int ((m : Int) - 1), V.int ((m : Int) + 1), V.int 0, V.int 1, V.int 12, V.int 13, V.int kk]) nLw
          have W13 := (W.go g12).same sw
          refine ⟨r, _, rfl, W13.rg, .inl ⟨Lw, _, rfl, ?_, sqL upd_same, Nat.succ_pos _, (by show 8 ≤ 1000; decide), fun H14 y g14 hy => ?_⟩⟩
          · obtain ⟨xr, er⟩ := (W.go g12).rg.ex
            exact (ne_of_none er nLw).symm
          obtain ⟨ws, rfl⟩ : ∃ ws : Int, y = .int ws := by
            simp only [List.mem_cons, List.not_mem_nil, or_false] at hy
            rcases hy with rfl | rfl | rfl | rfl | rfl | rfl | rfl | rfl <;> exact ⟨_, rfl⟩
          clear hy
          have W14 := W13.go g14
          clear W13 sw g14 g12 W
          try dsimp only [gName, tSeq, tAsg, tNext, List.set_cons_zero, List.set_cons_succ]
          refine ⟨W14.tab, fun f2 c2 H15 e15 t15 nf2 la => ⟨_, rfl, f2, _, _, rfl, lamB_of (k := 15) (t := fun E => tMeth C "set_capacity" (spSc C CL) [] E (tVar 9) (tCons (tVar 14) tNil)) la (lamN_by (by show lamNB lawN (defScope sLaw) _ = true; decide +kernel)) (bindsL0 fun _ _ => rfl)
            (fun f A outer s H E hr2 => pe_meth (pv 9) T.cls mSc GSc (hr2.mono (by decide)) bSc .nil (passes_call (takes_of rfl rfl rfl rfl) (fun _ _ _ _ h => h)) (pa_cons (pv 14) pa_nil)), la, ?_⟩⟩
          have W15 := W14.ext e15 t15
          clear W14
          obtain ⟨⟨dx, D, KD, nn, hx, _⟩, _⟩ := id W15.bk
          have hmx : ((max 1 b.now.length : Nat) : Int) = if ((m : Nat) : Int) > 1 then ((m : Nat) : Int) else 1 := by
            rw [hl]; split <;> omega
          by_cases hr : ((max 1 b.now.length : Nat) : Int) ≤ ws ∧ ws ≤ 12
          · obtain ⟨cw, rfl⟩ : ∃ cw : Nat, ws = (cw : Int) := ⟨ws.toNat, by omega⟩
            refine ⟨la, _, rfl, x, dx, _, rfl, hx, rfl, _, rfl, x, P, A, b, _, rfl, W15.bk, fun _ _ H16 k16 B16 => ⟨(by show 2 ≤ sizeLine; decide), fun t nt => ?_⟩, fun z => by omega⟩
            have B16 : BkH H16 C x P A { b with most := cw } := B16
            have W16 := W15.chg (fun d o n1 _ e => k16 d o n1 e) (.inl rfl) B16 rfl
            try dsimp only [gName, tSeq, tAsg, tNext, List.set_cons_zero, List.set_cons_succ]
            have st := same_new (o := .tup [V.str (Str.ofString "value"), V.non]) nt
            have W17 := W16.same st
            have ht : upd H16 t (.tup [V.str (Str.ofString "value"), V.non]) t = some (.tup [V.str (Str.ofString "value"), V.non]) := upd_same
            generalize upd H16 t (.tup [V.str (Str.ofString "value"), V.non]) = H17 at W17 ht ⊢
            rw [hmx] at hr
            refine ⟨_, rfl, _, _, rfl, _, rfl, _, _, rfl, rfl, _, rfl, ?_⟩
            rw [decide_eq_true hr.1]
            refine iteT ⟨_, _, rfl, rfl, ?_⟩
            dsimp only
            rw [decide_eq_true hr.2]
            try dsimp only [gName, tSeq, tAsg, tNext, List.set_cons_zero, List.set_cons_succ]
            refine ⟨_, rfl, _, rfl, iteT ⟨_, rfl, ?_⟩⟩
            try dsimp only [gName, tSeq, tAsg, tNext, List.set_cons_zero, List.set_cons_succ]
            refine ⟨_, rfl, _, rfl, _, rfl, iteT ⟨(by show 2 ≤ sizeLine; decide), fun t18 n18 => ?_⟩⟩
            have s18 := same_new (o := .tup [V.str (Str.ofString "value"), V.non]) n18
            refine ⟨.tuple [.str (Str.ofString "value"), .none], .tuple [.str (Str.ofString "value"), .none], pr_n (s18 _ _ ht), pr_n upd_same, sh_n cl_va, sh_n cl_va, ?_⟩
            rw [SeqAt.eqv_refl _ (SeqAt.canLay_of_shaped (sh_n cl_va))]
            refine ⟨false, rfl, iteF ?_⟩
            have W18 := W17.same s18
            obtain ⟨⟨dx, D, KD, nn, hx, _⟩, _⟩ := id W18.bk
            refine ⟨_, rfl, x, dx, _, rfl, hx, x, P, A, _, rfl, W18.bk, ?_⟩
            refine ⟨_, rfl, rfl, _, rfl, ?_⟩
            rw [show (!decide (iv cw = iv cw)) = false by rw [decide_eq_true rfl]; rfl]
            refine iteF ?_
            have hr1 : m ≤ cw ∧ 1 ≤ cw := by
              rw [← hmx] at hr
              rw [← hl]
              omega
            exact ⟨_, _, _, _, _, _, _, A, { b with most := cw }, rfl, W18, ks, hl, hr1.2, hr1.1, by show cw ≤ 12; omega, hf.cap⟩
          · rw [hmx] at hr
            refine ⟨la, _, rfl, x, dx, _, rfl, hx, rfl, _, rfl, x, P, A, b, ws, rfl, W15.bk, fun _ _ => by omega, fun z H16 d s16 hd => ⟨xL, _, _, errN_1 EL hd fl_lr nL (by decide), fun H17 t s17 nt => ?_⟩⟩
            have st := same_new (o := .tup [V.str (Str.ofString "LimitReached"), V.int 12]) nt
            have W17 := W15.same (s16.trans (s17.trans st))
            have ht : upd H17 t (.tup [V.str (Str.ofString "LimitReached"), V.int 12]) t = some (.tup [V.str (Str.ofString "LimitReached"), V.int 12]) := upd_same
            generalize upd H17 t (.tup [V.str (Str.ofString "LimitReached"), V.int 12]) = H18 at W17 ht ⊢
            try dsimp only [gName, tSeq, tAsg, tNext, List.set_cons_zero, List.set_cons_succ]
            refine ⟨_, rfl, _, _, rfl, _, rfl, _, _, rfl, rfl, _, rfl, ?_⟩
            have ser : ∀ (H19 : Hp) (t19 : Addr), Same H18 H19 → H19 t19 = some (.tup [V.str (Str.ofString "LimitReached"), V.int 12]) → Dp K H19 (.ref t) (.tuple [.str (Str.ofString "LimitReached"), .int 12]) ∧ Dp K H19 (.ref t19) (.tuple [.str (Str.ofString "LimitReached"), .int 12]) := fun H19 t19 s19 h19 => ⟨pr_si (s19 _ _ ht), pr_si h19⟩
            by_cases q1 : (if ((m : Nat) : Int) > 1 then ((m : Nat) : Int) else 1) ≤ ws
            · rw [decide_eq_true q1]
              refine iteT ⟨_, _, rfl, rfl, ?_⟩
              dsimp only
              rw [decide_eq_false (fun z => hr ⟨q1, z⟩)]
              try dsimp only [gName, tSeq, tAsg, tNext, List.set_cons_zero, List.set_cons_succ]
              refine ⟨_, rfl, _, rfl, iteF ⟨_, rfl, ?_⟩⟩
              try dsimp only [gName, tSeq, tAsg, tNext, List.set_cons_zero, List.set_cons_succ]
              refine ⟨_, rfl, _, rfl, _, rfl, iteF ⟨(by show 2 ≤ sizeLine; decide), fun t18 n18 => ?_⟩⟩
              have s18 := same_new (o := .tup [V.str (Str.ofString "LimitReached"), V.int 12]) n18
              refine ⟨_, _, (ser _ _ s18 upd_same).1, (ser _ _ s18 upd_same).2, sh_si cl_lr, sh_si cl_lr, ?_⟩
              rw [SeqAt.eqv_refl _ (SeqAt.canLay_of_shaped (sh_si cl_lr))]
              refine ⟨false, rfl, iteF ?_⟩
              have W18 := W17.same s18
              obtain ⟨⟨dx, D, KD, nn, hx, _⟩, _⟩ := id W18.bk
              refine ⟨_, rfl, x, dx, _, rfl, hx, x, P, A, _, rfl, W18.bk, ?_⟩
              refine ⟨_, rfl, rfl, _, rfl, ?_⟩
              rw [show (!decide (iv b.most = iv b.most)) = false by rw [decide_eq_true rfl]; rfl]
              refine iteF ?_
              exact ⟨_, _, _, _, _, _, _, A, b, rfl, W18, ks, hl, h1, h2, h3, hf⟩
            · rw [decide_eq_false q1]
              refine iteF ?_
              try dsimp only [gName, tSeq, tAsg, tNext, List.set_cons_zero, List.set_cons_succ]
              refine ⟨_, rfl, _, rfl, iteF ⟨_, rfl, ?_⟩⟩
              try dsimp only [gName, tSeq, tAsg, tNext, List.set_cons_zero, List.set_cons_succ]
              refine ⟨_, rfl, _, rfl, _, rfl, iteF ⟨(by show 2 ≤ sizeLine; decide), fun t18 n18 => ?_⟩⟩
              have s18 := same_new (o := .tup [V.str (Str.ofString "LimitReached"), V.int 12]) n18
              refine ⟨_, _, (ser _ _ s18 upd_same).1, (ser _ _ s18 upd_same).2, sh_si cl_lr, sh_si cl_lr, ?_⟩
              rw [SeqAt.eqv_refl _ (SeqAt.canLay_of_shaped (sh_si cl_lr))]
              refine ⟨false, rfl, iteF ?_⟩
              have W18 := W17.same s18
              obtain ⟨⟨dx, D, KD, nn, hx, _⟩, _⟩ := id W18.bk
              refine ⟨_, rfl, x, dx, _, rfl, hx, x, P, A, _, rfl, W18.bk, ?_⟩
              refine ⟨_, rfl, rfl, _, rfl, ?_⟩
              rw [show (!decide (iv b.most = iv b.most)) = false by rw [decide_eq_true rfl]; rfl]
              refine iteF ?_
              exact ⟨_, _, _, _, _, _, _, A, b, rfl, W18, ks, hl, h1, h2, h3, hf⟩
        · rintro σ H11 ⟨v5, v6, v7, v8, v13, v14, v3, A, b, rfl, W, ks, hl, h1, h2, h3, hf⟩
          exact ⟨_, _, _, _, _, _, _, A, b, rfl, W, ks, hl, h1, h2, h3, hf⟩
      clear W10 ks hl hc hf
      rintro σ H11 ⟨v5, v6, v7, v8, v13, v14, v3, A10, b, rfl, W, ks, hl, h1, h2, h3, hf⟩
      try dsimp only [gName, tSeq, tAsg, tNext, List.set_cons_zero, List.set_cons_succ]
      have hsz : ∀ z : Bool, (if z = true then 1 else 0) ≤ 1 := fun z => by cases z <;> decide
      refine ⟨fun σ H' => ∃ (v5 v7 v8 v13 v14 v3 : Option V) (A : Addr) (b : Bk) (t : Addr), σ = [some (.ref a), some (.ref r), some (.int (0 + (i : Int))), v3, some (iv b.most), v5, some (.ref t), v7, v8, some (.ref x), some (tx gs), some (iv m), some (.ref LL), v13, v14] ∧ Wb tb tb2 C r l x P A LL gs ns b H' ∧ K2 b.now ns m ∧ b.now.length = m + (if m < b.most then 1 else 0) ∧ 1 ≤ b.most ∧ m ≤ b.most ∧ b.most ≤ 12 ∧ Bf b (m + 1) ∧ H' t = some (.tup (if m < b.most then [V.str (Str.ofString "value"), V.non] else [V.str (Str.ofString "LimitReached"), iv b.most])), ?_, ?_⟩
      · refine ⟨W.tab, fun f2 c2 H12 e12 t12 nf2 la => ⟨_, rfl, f2, _, _, rfl, lamB_of (k := 15) (t := fun E => tMethR C "apply" (fun vs H Q E => ∃ ws rest, vs = ws ++ rest ∧ ws.length = [("self" : Str)].length ∧ rest.length ≤ PySem.sizeLine ∧ ∀ (p : Addr), H p = none → spAp1 C CL (ws ++ [V.ref p]) (upd H p (.tup rest)) Q E) E (tVar 9) (tCons (tTup (tCons (tC (.str (Str.ofString "program"))) (tCons (tOp (rIxL K) (tVar 12) (tVar 11)) (tCons (tC (.str (Str.ofString "skip"))) tNil)))) tNil)) la (lamN_by (by show lamNB lawN (defScope sLaw) _ = true; decide +kernel)) (bindsL0 fun _ _ => rfl)
          (fun f A outer s H E hr2 => pe_methR (pv 9) T.cls mAp GAp (hr2.mono (by decide)) (passes_call (takes_of rfl rfl rfl rfl) (fun _ _ _ _ h => h)) (pa_cons (pe_tup (pa_cons pe_str (pa_cons (pe_ix (ixL (K := K) rfl) (pv 12) (pv 11) (fun _ _ => rfl)) (pa_cons pe_str pa_nil)))) pa_nil)), la, ?_⟩⟩
        have W12 := W.ext e12 t12
        clear W
        obtain ⟨n, hn⟩ : ∃ n, ns[m]? = some n := ⟨_, List.getElem?_eq_getElem (by omega)⟩
        have atm : (ns.map tx)[m]? = some (tx n) := by rw [List.getElem?_map, hn]; rfl
        have lk0 := (ks m n hn).2 (Nat.le_refl _)
        obtain ⟨⟨dx, D, KD, nn, hx, _⟩, _⟩ := id W12.bk
        refine ⟨la, _, rfl, x, dx, _, rfl, hx, rfl, _, rfl, _, rfl, LL, _, m, _, rfl, rfl, sqL W12.nm, atI_nat (j := m) atm, (by show 3 ≤ sizeLine; decide), fun cm nc => ⟨[.ref x], [.ref cm], rfl, rfl, (by show 1 ≤ sizeLine; decide), fun T8 n8 => ?_⟩⟩
        have sc := same_new (o := .tup [V.str (Str.ofString "program"), tx n, V.str (Str.ofString "skip")]) nc
        have s8 := same_new (o := .tup [V.ref cm]) n8
        have s78 := sc.trans s8
        have W13 := W12.same s78
        refine ⟨x, P, A10, T8, cm, b, n, Prg.pTx (.leaf .skip .nil), skP, rfl, upd_same, W13.bk, by rw [W13.eg]; exact hg, by omega, by have := hf.pl; omega, s8 _ _ upd_same, hnn n (List.mem_of_getElem? hn), sk_ok, (by decide), sk_sz, sk_no, (fun e' z => by rw [lk0] at z; cases z), (fun z H14 A14 k14 nA14 B14 => ?_), fun _ z H14 d s14 hd => ?_⟩
        · have hlt : m < b.most := by
            rcases z with z | z
            · exact absurd lk0 z
            · omega
          refine ⟨(by show 2 ≤ sizeLine; decide), fun t nt => ?_⟩
          have W14 := (W13.chg k14 (.inr nA14) B14 rfl).same (same_new (o := .tup [V.str (Str.ofString "value"), V.non]) nt)
          refine ⟨_, _, _, _, _, _, A14, { b with now := putE b.now n skP, past := b.past ++ [b.now], ahead := [] }, t, rfl, W14, ks.k2p hnd (by omega) hn, ?_, h1, h2, h3, hf.push, ?_⟩
          · show (putE b.now n skP).length = m + if m < b.most then 1 else 0
            rw [putE_len, if_pos lk0, hl, if_pos hlt]
          · show _ = some (HO.tup (if m < b.most then _ else _))
            rw [if_pos hlt]
            exact upd_same
        · refine ⟨xL, _, _, errN_1 EL hd fl_lr nL (by decide), fun H15 t s15 nt => ?_⟩
          have hlt : ¬ m < b.most := by omega
          have W15 := W13.same ((s14.trans s15).trans (same_new (o := .tup [V.str (Str.ofString "LimitReached"), iv b.most]) nt))
          refine ⟨_, _, _, _, _, _, A10, b, t, rfl, W15, ks.k2 hm, by rw [hl, if_neg hlt]; rfl, h1, h2, h3, ⟨hf.ah, hf.hd, by have := hf.pl; omega⟩, ?_⟩
          rw [if_neg hlt]
          exact upd_same
      clear W ks hl h1 h2 h3 hf
      rintro σ H12 ⟨v5, v7, v8, v13, v14, v3, A11, b, t, rfl, W, ks, hl, h1, h2, h3, hf, ht⟩
      refine ⟨fun σ H' => ∃ (v5 v6 v7 v8 v13 v14 v3 : Option V) (A : Addr) (b : Bk), σ = [some (.ref a), some (.ref r), some (.int (0 + (i : Int))), v3, some (iv b.most), v5, v6, v7, v8, some (.ref x), some (tx gs), some (iv m), some (.ref LL), v13, v14] ∧ Wb tb tb2 C r l x P A LL gs ns b H' ∧ K2 b.now ns m ∧ b.now.length = m + (if m < b.most then 1 else 0) ∧ 1 ≤ b.most ∧ m ≤ b.most ∧ b.most ≤ 12 ∧ Bf b (m + 1), ?_, ?_⟩
      · refine ⟨_, rfl, _, rfl, _, rfl, _, _, rfl, rfl, _, rfl, ?_⟩
        by_cases hlt : m < b.most
        · rw [if_pos hlt] at ht
          rw [decide_eq_true (show ((m : Nat) : Int) < ((b.most : Nat) : Int) by omega)]
          refine iteT ⟨(by show 2 ≤ sizeLine; decide), fun t18 n18 => ?_⟩
          have s18 := same_new (o := .tup [V.str (Str.ofString "value"), V.non]) n18
          refine ⟨.tuple [.str (Str.ofString "value"), .none], .tuple [.str (Str.ofString "value"), .none], pr_n (s18 _ _ ht), pr_n upd_same, sh_n cl_va, sh_n cl_va, ?_⟩
          rw [SeqAt.eqv_refl _ (SeqAt.canLay_of_shaped (sh_n cl_va))]
          refine ⟨false, rfl, iteF ?_⟩
          exact ⟨_, _, _, _, _, _, _, A11, b, rfl, W.same s18, ks, hl, h1, h2, h3, hf⟩
        · rw [if_neg hlt] at ht
          rw [decide_eq_false (show ¬ ((m : Nat) : Int) < ((b.most : Nat) : Int) by omega)]
          refine iteF ⟨_, rfl, (by show 2 ≤ sizeLine; decide), fun t18 n18 => ?_⟩
          have s18 := same_new (o := .tup [V.str (Str.ofString "LimitReached"), iv b.most]) n18
          refine ⟨.tuple [.str (Str.ofString "LimitReached"), .int b.most], .tuple [.str (Str.ofString "LimitReached"), .int b.most], pr_si (s18 _ _ ht), pr_si upd_same, sh_si cl_lr, sh_si cl_lr, ?_⟩
          rw [SeqAt.eqv_refl _ (SeqAt.canLay_of_shaped (sh_si cl_lr))]
          refine ⟨false, rfl, iteF ?_⟩
          exact ⟨_, _, _, _, _, _, _, A11, b, rfl, W.same s18, ks, hl, h1, h2, h3, hf⟩
      clear W ks hl h1 h2 h3 hf ht
      rintro σ H13 ⟨v5, v6, v7, v8, v13, v14, v3, A12, b, rfl, W, ks, hl, h1, h2, h3, hf⟩
      refine ⟨fun σ H' => ∃ (v5 v6 v7 v8 v13 v14 v3 : Option V) (A : Addr) (b : Bk), σ = [some (.ref a), some (.ref r), some (.int (0 + (i : Int))), v3, some (iv b.most), v5, v6, v7, v8, some (.ref x), some (tx gs), some (iv m), some (.ref LL), v13, v14] ∧ Wb tb tb2 C r l x P A LL gs ns b H' ∧ K2 b.now ns m ∧ b.now.length = m + (if m < b.most then 1 else 0) ∧ 1 ≤ b.most ∧ m ≤ b.most ∧ b.most ≤ 12 ∧ Bf b (m + 2), ?_, ?_⟩
      · refine ⟨_, rfl, _, _, rfl, rfl, _, rfl, ?_⟩
        by_cases hm0 : m = 0
        · rw [decide_eq_false (show ¬ (0 : Int) < ((m : Nat) : Int) by omega)]
          refine iteF ?_
          exact ⟨_, _, _, _, _, _, _, A12, b, rfl, W, ks, hl, h1, h2, h3, ⟨hf.ah, hf.hd, by have := hf.pl; omega⟩⟩
        rw [decide_eq_true (show (0 : Int) < ((m : Nat) : Int) by omega)]
        refine iteT ⟨W.tab, fun f2 c2 H14 e14 t14 nf2 la => ⟨_, rfl, f2, _, _, rfl, lamB_of (k := 15) (t := fun E => tMethR C "apply" (fun vs H Q E => ∃ ws rest, vs = ws ++ rest ∧ ws.length = [("self" : Str)].length ∧ rest.length ≤ PySem.sizeLine ∧ ∀ (p : Addr), H p = none → spAp1 C CL (ws ++ [V.ref p]) (upd H p (.tup rest)) Q E) E (tVar 9) (tCons (tTup (tCons (tC (.str (Str.ofString "condition"))) (tCons (tOp (rIxL K) (tVar 12) (tC (.int 0))) (tCons (tC (.str (Str.ofString "match(.)"))) tNil)))) tNil)) la (lamN_by (by show lamNB lawN (defScope sLaw) _ = true; decide +kernel)) (bindsL0 fun _ _ => rfl)
          (fun f A outer s H E hr2 => pe_methR (pv 9) T.cls mAp GAp (hr2.mono (by decide)) (passes_call (takes_of rfl rfl rfl rfl) (fun _ _ _ _ h => h)) (pa_cons (pe_tup (pa_cons pe_str (pa_cons (pe_ix (ixL (K := K) rfl) (pv 12) pe_int (fun _ _ => rfl)) (pa_cons pe_str pa_nil)))) pa_nil)), la, ?_⟩⟩
        have W14 := W.ext e14 t14
        clear W
        obtain ⟨n, hn⟩ : ∃ n, ns[0]? = some n := ⟨_, List.getElem?_eq_getElem (by omega)⟩
        have at0 : (ns.map tx)[0]? = some (tx n) := by rw [List.getElem?_map, hn]; rfl
        obtain ⟨c0, lk0⟩ := ks.h hm0 n hn
        obtain ⟨⟨dx, D, KD, nn, hx, _⟩, _⟩ := id W14.bk
        refine ⟨la, _, rfl, x, dx, _, rfl, hx, rfl, _, rfl, LL, _, 0, _, rfl, rfl, sqL W14.nm, atI_nat (j := 0) at0, (by show 3 ≤ sizeLine; decide), fun cm nc => ⟨[.ref x], [.ref cm], rfl, rfl, (by show 1 ≤ sizeLine; decide), fun T8 n8 => ?_⟩⟩
        have sc := same_new (o := .tup [V.str (Str.ofString "condition"), tx n, V.str (Str.ofString "match(.)")]) nc
        have s8 := same_new (o := .tup [V.ref cm]) n8
        have s78 := sc.trans s8
        have W15 := W14.same s78
        have hlb : b.now.length ≤ 20 := by rw [hl]; split <;> omega
        refine ⟨x, P, A12, T8, cm, b, n, Cnd.cTx (.mat [46]), .cd (.mat [46]), rfl, upd_same, W15.bk, by rw [W15.eg]; exact hg, by omega, by have := hf.pl; omega, s8 _ _ upd_same, hnn n (List.mem_of_getElem? hn), by rw [W15.eg]; exact dot_ok hg, (by decide), dot_sz, dot_no, (fun e' z => by rw [lk0] at z; cases z; rfl), (fun z H16 A16 k16 nA16 B16 => ?_), fun z => by rw [lk0] at z; cases z⟩
        refine ⟨(by show 2 ≤ sizeLine; decide), fun t nt => ?_⟩
        have W16 := (W15.chg k16 (.inr nA16) B16 rfl).same (same_new (o := .tup [V.str (Str.ofString "value"), V.non]) nt)
        refine ⟨t, _, 0, _, rfl, rfl, sqT upd_same, atI_nat (j := 0) rfl, ?_⟩
        refine ⟨rfl, _, rfl, ?_⟩
        rw [show (!decide (V.str (Str.ofString "value") = V.str (Str.ofString "value"))) = false by rw [decide_eq_true rfl]; rfl]
        refine iteF ?_
        refine ⟨_, _, _, _, _, _, _, A16, { b with now := putE b.now n (.cd (.mat [46])), past := b.past ++ [b.now], ahead := [] }, rfl, W16, ks.put hnd hn, ?_, h1, h2, h3, hf.push⟩
        show (putE b.now n (.cd (.mat [46]))).length = m + if m < b.most then 1 else 0
        rw [putE_len, if_neg (by rw [lk0]; exact fun z => nomatch z), hl]
      clear W ks hl h1 h2 h3 hf
      rintro σ H14 ⟨v5, v6, v7, v8, v13, v14, v3, A13, b, rfl, W, ks, hl, h1, h2, h3, hf⟩
      have elt : decide (((m : Nat) : Int) < ((b.most : Nat) : Int)) = decide (m < b.most) := by
        by_cases z : m < b.most
        · rw [decide_eq_true z, decide_eq_true (by omega)]
        · rw [decide_eq_false z, decide_eq_false (by omega)]
      refine ⟨_, rfl, _, rfl, _, rfl, _, rfl, _, rfl, _, rfl, _, _, rfl, rfl, .inr ⟨_, rfl, _, _, rfl, rfl, ?_⟩⟩
      rw [elt]
      have esz : ((m : Nat) : Int) + (if decide (m < b.most) = true then 1 else 0) = ((m + (if m < b.most then 1 else 0) : Nat) : Int) := by
        by_cases z : m < b.most
        · rw [if_pos z, if_pos (decide_eq_true z)]; omega
        · rw [if_neg z, if_neg (by rw [decide_eq_false z]; exact Bool.false_ne_true)]; omega
      have hs20 : 1 ≤ m + (if m < b.most then 1 else 0) ∧ m + (if m < b.most then 1 else 0) ≤ 20 := by
        split <;> omega
      refine ⟨x, P, A13, LL, b, ns, m, m + (if m < b.most then 1 else 0), by show _ = [V.ref x, V.ref LL, V.int m, V.int ((m + (if m < b.most then 1 else 0) : Nat) : Int)]; rw [← esz]; rfl, W.bk, by rw [W.eg]; exact hg, W.nm, W.tab, hnl, hnn, hf.ah, hf.hd, hl, hs20.1, hs20.2, by have := hf.pl; omega, ks.z, ks.h, fun H15 k15 t15 => ?_⟩
      have R15 : Rng H15 r := by
        obtain ⟨n1, n2, n3, n4, n5, n6, n7⟩ := W.nd
        obtain ⟨ms, i, bb, s, c, h0, h1, h2⟩ := W.rng
        obtain ⟨⟨dx, D, KD, n, e1, _⟩, ⟨vs, e2, _⟩, ⟨ws, e3, _⟩, _⟩ := id W.bk
        exact ⟨l, ms, i, bb, s, c, h0, k15 _ _ (fun _ z => nomatch z) (ne_of h1 e1 fun z => nomatch z) n1 n2 h1, k15 _ _ (fun _ z => nomatch z) (ne_of h2 e1 fun z => nomatch z) n4 n5 h2⟩
      clear W ks hl h1 h2 h3 hf k15
      refine ⟨true, rfl, iteF ?_⟩
      try dsimp only [gName, tSeq, tAsg, tNext, List.set_cons_zero, List.set_cons_succ]
      refine ⟨_, rfl, _, rfl, _, _, rfl, rfl, ⟨by decide, by decide, by decide⟩, (by show 4 ≤ sizeLine; decide), fun Lw nLw => ?_⟩
      have sw := same_new (o := .lst [V.int 0, V.int (-1), V.int 13, V.int ((10 : Int) ^ ((9 : Int).toNat))]) nLw
      refine ⟨r, _, rfl, R15.same sw, .inl ⟨Lw, _, rfl, ?_, sqL upd_same, Nat.succ_pos _, (by show 4 ≤ 1000; decide), fun H16 y g16 hy => ?_⟩⟩
      · obtain ⟨xr, er⟩ := R15.ex
        exact (ne_of_none er nLw).symm
      obtain ⟨ws, rfl, hws⟩ : ∃ ws : Int, y = .int ws ∧ (ws < 1 ∨ 12 < ws) := by
        simp only [List.mem_cons, List.not_mem_nil, or_false] at hy
        rcases hy with rfl | rfl | rfl | rfl
        · exact ⟨_, rfl, .inl (by decide)⟩
        · exact ⟨_, rfl, .inl (by decide)⟩
        · exact ⟨_, rfl, .inr (by decide)⟩
        · exact ⟨_, rfl, .inr pow9⟩
      clear hy
      have t16 := tabsN_go (tabsN_same t15 sw) g16
      have R16 : Rng H16 r := g16.rng
      clear sw g16 t15 R15
      try dsimp only [gName, tSeq, tAsg, tNext, List.set_cons_zero, List.set_cons_succ]
      refine ⟨t16, fun f2 c2 H17 e17 t17 nf2 la => ⟨_, rfl, f2, _, _, rfl, lamB_of (k := 15) (t := fun E => tMakeK C 1 (["capacity"] : List Str).length (spBkI C CL CI) onC E (tCons (tVar 10) tNil) (tCons (tVar 13) tNil)) la (lamN_by (by show lamNB lawN (defScope sLaw) _ = true; decide +kernel)) (bindsL0 fun _ _ => rfl)
        (fun f A outer s H E hr2 => pe_makeK (ks := ["capacity"]) (n := 1) M GI (hr2.mono (by decide)) (by rfl) gC kI (passes_call (takes_of rfl rfl rfl rfl) (fun _ _ _ _ h => h)) (pa_cons (pv 10) pa_nil) (pk_cons (pv 13) pk_nil)), la, ?_⟩⟩
      have R17 : Rng H17 r := by
        obtain ⟨l', ms, i, bb, s, c, h0, h1, h2⟩ := R16
        exact ⟨l', ms, i, bb, s, c, h0, e17 _ _ h1 (fun _ z => nomatch z), e17 _ _ h2 (fun _ z => nomatch z)⟩
      have hgl : gs.length ≤ 900 := by omega
      refine ⟨la, _, rfl, _, rfl, rfl, rfl, fun y dy ny ndy ne => ⟨y, dy, gs, ws, rfl, upd_same, hgl, fun _ h1 h2 => by omega, fun _ _ H18 d k18 hd => ⟨xL, _, _, errN_1 EL hd fl_lr nL (by decide), fun H19 t s19 nt => ?_⟩, fun z => absurd (valid_good hg) z⟩⟩
      have s18 := (same_mk ny ndy k18).trans s19
      have st := same_new (o := .tup [V.str (Str.ofString "LimitReached"), V.int 12]) nt
      refine ⟨(by show 2 ≤ sizeLine; decide), fun t18 n18 => ?_⟩
      have st2 := same_new (o := .tup [V.str (Str.ofString "LimitReached"), V.int 12]) n18
      refine ⟨.tuple [.str (Str.ofString "LimitReached"), .int 12], .tuple [.str (Str.ofString "LimitReached"), .int 12], pr_si (st2 _ _ upd_same), pr_si upd_same, sh_si cl_lr, sh_si cl_lr, ?_⟩
      rw [SeqAt.eqv_refl _ (SeqAt.canLay_of_shaped (sh_si cl_lr))]
      refine ⟨false, rfl, iteF ?_⟩
      have sall := s18.trans (st.trans st2)
      exact ⟨_, _, _, _, _, _, _, _, _, _, _, _, _, rfl, R17.same sall, tabsN_same t17 sall⟩
    rintro σ H2 ⟨v2, v3, v4, v5, v6, v7, v8, v9, v10, v11, v12, v13, v14, rfl, R2, t2⟩
    try dsimp only [gName, tSeq, tAsg, tNext, List.set_cons_zero, List.set_cons_succ]
    refine ⟨t2, fun f2 c2 H3 e3 t3 nf2 la => ⟨_, rfl, f2, _, _, rfl, lamB_of (k := 15) (t := fun E => tMakeK C 1 (["capacity"] : List Str).length (spBkI C CL CI) onC E (tCons (tC (.str (Str.ofString "a"))) tNil) (tCons (tC (.int 0)) tNil)) la (lamN_by (by show lamNB lawN (defScope sLaw) _ = true; decide +kernel)) (bindsL0 fun _ _ => rfl)
      (fun f A outer s H E hr2 => pe_makeK (ks := ["capacity"]) (n := 1) M GI (hr2.mono (by decide)) (by rfl) gC kI (passes_call (takes_of rfl rfl rfl rfl) (fun _ _ _ _ h => h)) (pa_cons pe_str pa_nil) (pk_cons pe_int pk_nil)), la, ?_⟩⟩
    refine ⟨la, rfl, rfl, fun y dy ny ndy ne => ⟨y, dy, [97], 0, rfl, upd_same, by decide, fun z => absurd z not_valid_a, fun z => absurd z not_valid_a, fun _ H4 d s4 hd => ⟨xI, _, _, errN_0 EI hd fl_il, fun H5 t s5 nt => ?_⟩⟩⟩
    have ht : upd H5 t (.tup [V.str (Str.ofString "InvalidLetters"), V.non]) t = some (.tup [V.str (Str.ofString "InvalidLetters"), V.non]) := upd_same
    generalize upd H5 t (.tup [V.str (Str.ofString "InvalidLetters"), V.non]) = H6 at ht ⊢
    try dsimp only [gName, tSeq, tAsg, tNext, List.set_cons_zero, List.set_cons_succ]
    refine ⟨_, rfl, (by show 2 ≤ sizeLine; decide), fun t7 n7 => ?_⟩
    have s7 := same_new (o := .tup [V.str (Str.ofString "InvalidLetters"), V.non]) n7
    refine ⟨.tuple [.str (Str.ofString "InvalidLetters"), .none], .tuple [.str (Str.ofString "InvalidLetters"), .none], pr_n (s7 _ _ ht), pr_n upd_same, sh_n cl_il, sh_n cl_il, ?_⟩
    rw [SeqAt.eqv_refl _ (SeqAt.canLay_of_shaped (sh_n cl_il))]
    have hab : Good [97, 98] := ⟨by decide, by decide, by decide, by decide⟩
    refine ⟨true, rfl, iteT ⟨rfl, true, rfl, iteT ⟨rfl, rfl, fun y2 dy2 ny2 ndy2 ne2 => ⟨y2, dy2, [97, 98], 3, rfl, upd_same, by decide, fun _ _ _ H8 P A k8 nP nA Px Ax B8 => ⟨rfl, ?_⟩, fun _ z => by omega, fun z => absurd (valid_good hab) z⟩⟩⟩⟩
    obtain ⟨⟨dx, D, KD, nn, hx, _⟩, _⟩ := id B8
    exact ⟨y2, dx, _, rfl, hx, y2, P, A, _, rfl, B8, rfl, q _⟩
end
end Own

namespace Own
open PySem PySem.Spec PyProof.Rows L2 SX
theorem ends {l : PySem.W.OpenLaw} {w : World} {K : PySem.W.Frag} {h : Heap} {mg : Str → Option Value} {fa : Addr} (X : K.In h) (G : h.Ns mainGlobals mg) (hfa : mg "law" = some (.ref fa)) (c' : ToldD hfs hfn htf hdk w h K) : LamX.LawAtS l w K CX0 20 63 "_law_script" mg fa h := by
  have c := c'.told
  obtain ⟨fd1, G1_⟩ := c.def_ 0
  have F1 : Fun K "check_letters" "check_letters" sCheckL (He.ga K "check_letters") fd1 := He5.fun_of G1_
  have g1 := He.glo_ok X G (c.fact 0)
  obtain ⟨fd2, G2_⟩ := c.def_ 1
  have F2 : Fun K "__init__" "InvalidLetters.__init__" sInitIL (He.ma K (He.ga K "InvalidLetters") "__init__") fd2 := He5.fun_of G2_
  obtain ⟨a2, y2⟩ := ein_ok (c.fact 1)
  obtain ⟨fd3, G3_⟩ := c.def_ 2
  have F3 : Fun K "__init__" "LimitReached.__init__" sInitLR (He.ma K (He.ga K "LimitReached") "__init__") fd3 := He5.fun_of G3_
  obtain ⟨a3, y3⟩ := ein_ok (c.fact 2)
  obtain ⟨fd4, G4_⟩ := c.def_ 3
  have F4 : Fun K "is_turn" "is_turn" sIs (He.ga K "is_turn") fd4 := He5.fun_of G4_
  have g4 := He.glo_ok X G (c.fact 3)
  obtain ⟨fd5, G5_⟩ := c.def_ 4
  have F5 : Fun K "is_blank" "is_blank" sBk (He.ga K "is_blank") fd5 := He5.fun_of G5_
  have g5 := He.glo_ok X G (c.fact 4)
  obtain ⟨fd6, G6_⟩ := c.def_ 5
  have F6 : Fun K "blank_width" "blank_width" sBw (He.ga K "blank_width") fd6 := He5.fun_of G6_
  have g6 := He.glo_ok X G (c.fact 5)
  obtain ⟨fd7, G7_⟩ := c.def_ 6
  have F7 : Fun K "read_row" "read_row" sRd (He.ga K "read_row") fd7 := He5.fun_of G7_
  have g7 := He.glo_ok X G (c.fact 6)
  obtain ⟨fd8, G8_⟩ := c.def_ 7
  have F8 : Fun K "item_text" "item_text" sIt (He.ga K "item_text") fd8 := He5.fun_of G8_
  have g8 := He.glo_ok X G (c.fact 7)
  obtain ⟨fd9, G9_⟩ := c.def_ 8
  have F9 : Fun K "row_text" "row_text" sRt (He.ga K "row_text") fd9 := He5.fun_of G9_
  have g9 := He.glo_ok X G (c.fact 8)
  obtain ⟨fd10, G10_⟩ := c.def_ 9
  have F10 : Fun K "__init__" "Template.__init__" sTi (He.ma K (He.ga K "Template") "__init__") fd10 := He5.fun_of G10_
  have MK_Template := He.mkr_ok (c.fact 9)
  obtain ⟨fd11, G11_⟩ := c.def_ 10
  have F11 : Fun K "text" "Template.text" sText (He.ma K (He.ga K "Template") "text") fd11 := He5.fun_of G11_
  have M11 := He.meth_ok (c.fact 10)
  have D11 : DunOf K (He.ga K "Template") "text" (He.ma K (He.ga K "Template") "text") := ⟨M11.at_, M11.fn⟩
  obtain ⟨fd12, G12_⟩ := c.def_ 11
  have F12 : Fun K "can_stand" "can_stand" sCan (He.ga K "can_stand") fd12 := He5.fun_of G12_
  have g12 := He.glo_ok X G (c.fact 11)
  obtain ⟨fd13, G13_⟩ := c.def_ 12
  have F13 : Fun K "check_pattern" "check_pattern" sCkp (He.ga K "check_pattern") fd13 := He5.fun_of G13_
  have g13 := He.glo_ok X G (c.fact 12)
  obtain ⟨fd14, G14_⟩ := c.def_ 13
  have F14 : Fun K "read_name" "read_name" sRnm (He.ga K "read_name") fd14 := He5.fun_of G14_
  have g14 := He.glo_ok X G (c.fact 13)
  obtain ⟨fd15, G15_⟩ := c.def_ 14
  have F15 : Fun K "template_text" "template_text" sTtx (He.ga K "template_text") fd15 := He5.fun_of G15_
  have g15 := He.glo_ok X G (c.fact 14)
  obtain ⟨fd16, G16_⟩ := c.def_ 15
  have F16 : Fun K "closing_place" "closing_place" sClo (He.ga K "closing_place") fd16 := He5.fun_of G16_
  have g16 := He.glo_ok X G (c.fact 15)
  obtain ⟨fd17, G17_⟩ := c.def_ 16
  have F17 : Fun K "two_parts" "two_parts" sTwo (He.ga K "two_parts") fd17 := He5.fun_of G17_
  have g17 := He.glo_ok X G (c.fact 16)
  obtain ⟨fd18, G18_⟩ := c.def_ 17
  have F18 : Fun K "match_of" "match_of" sMof (He.ga K "match_of") fd18 := He5.fun_of G18_
  have g18 := He.glo_ok X G (c.fact 17)
  obtain ⟨fd19, G19_⟩ := c.def_ 18
  have F19 : Fun K "length_of" "length_of" sLof (He.ga K "length_of") fd19 := He5.fun_of G19_
  have g19 := He.glo_ok X G (c.fact 18)
  obtain ⟨fd20, G20_⟩ := c.def_ 19
  have F20 : Fun K "templates_of" "templates_of" sTof (He.ga K "templates_of") fd20 := He5.fun_of G20_
  have g20 := He.glo_ok X G (c.fact 19)
  obtain ⟨fd21, G21_⟩ := c.def_ 20
  have F21 : Fun K "read_simple" "read_simple" sRsm (He.ga K "read_simple") fd21 := He5.fun_of G21_
  have g21 := He.glo_ok X G (c.fact 20)
  obtain ⟨fd22, G22_⟩ := c.def_ 21
  have F22 : Fun K "begun_conditions" "begun_conditions" sBeg (He.ga K "begun_conditions") fd22 := He5.fun_of G22_
  have g22 := He.glo_ok X G (c.fact 21)
  obtain ⟨fd23, G23_⟩ := c.def_ 22
  have F23 : Fun K "linking_word" "linking_word" sLnk (He.ga K "linking_word") fd23 := He5.fun_of G23_
  have g23 := He.glo_ok X G (c.fact 22)
  obtain ⟨fd24, G24_⟩ := c.def_ 23
  have F24 : Fun K "read_condition" "read_condition" sRdc (He.ga K "read_condition") fd24 := He5.fun_of G24_
  have g24 := He.glo_ok X G (c.fact 23)
  obtain ⟨fd25, G25_⟩ := c.def_ 24
  have F25 : Fun K "parse_condition" "parse_condition" sPrs (He.ga K "parse_condition") fd25 := He5.fun_of G25_
  have g25 := He.glo_ok X G (c.fact 24)
  obtain ⟨fd26, G26_⟩ := c.def_ 25
  have F26 : Fun K "condition_names" "condition_names" sNms (He.ga K "condition_names") fd26 := He5.fun_of G26_
  have g26 := He.glo_ok X G (c.fact 25)
  obtain ⟨fd27, G27_⟩ := c.def_ 26
  have F27 : Fun K "parts_of" "parts_of" sPo (He.ga K "parts_of") fd27 := He5.fun_of G27_
  have g27 := He.glo_ok X G (c.fact 26)
  obtain ⟨fd28, G28_⟩ := c.def_ 27
  have F28 : Fun K "nodes_of" "nodes_of" sNo (He.ga K "nodes_of") fd28 := He5.fun_of G28_
  have g28 := He.glo_ok X G (c.fact 27)
  obtain ⟨fd29, G29_⟩ := c.def_ 28
  have F29 : Fun K "program_names" "program_names" sPnm (He.ga K "program_names") fd29 := He5.fun_of G29_
  have g29 := He.glo_ok X G (c.fact 28)
  obtain ⟨fd30, G30_⟩ := c.def_ 29
  have F30 : Fun K "__init__" "Begun.__init__" sBgI (He.ma K (He.ga K "Begun") "__init__") fd30 := He5.fun_of G30_
  have MK_Begun := He.mkr_ok (c.fact 29)
  obtain ⟨fd31, G31_⟩ := c.def_ 30
  have F31 : Fun K "template_end" "template_end" sTpe (He.ga K "template_end") fd31 := He5.fun_of G31_
  have g31 := He.glo_ok X G (c.fact 30)
  obtain ⟨fd32, G32_⟩ := c.def_ 31
  have F32 : Fun K "read_leaf" "read_leaf" sRlf (He.ga K "read_leaf") fd32 := He5.fun_of G32_
  have g32 := He.glo_ok X G (c.fact 31)
  obtain ⟨fd33, G33_⟩ := c.def_ 32
  have F33 : Fun K "read_head" "read_head" sRhd (He.ga K "read_head") fd33 := He5.fun_of G33_
  have g33 := He.glo_ok X G (c.fact 32)
  obtain ⟨fd34, G34_⟩ := c.def_ 33
  have F34 : Fun K "block_of" "block_of" sBo (He.ga K "block_of") fd34 := He5.fun_of G34_
  have g34 := He.glo_ok X G (c.fact 33)
  obtain ⟨fd35, G35_⟩ := c.def_ 34
  have F35 : Fun K "close_bracket" "close_bracket" sCbr (He.ga K "close_bracket") fd35 := He5.fun_of G35_
  have g35 := He.glo_ok X G (c.fact 34)
  obtain ⟨fd36, G36_⟩ := c.def_ 35
  have F36 : Fun K "next_place" "next_place" sNxp (He.ga K "next_place") fd36 := He5.fun_of G36_
  have g36 := He.glo_ok X G (c.fact 35)
  obtain ⟨fd37, G37_⟩ := c.def_ 36
  have F37 : Fun K "parse_program" "parse_program" sPpr (He.ga K "parse_program") fd37 := He5.fun_of G37_
  have g37 := He.glo_ok X G (c.fact 36)
  obtain ⟨fd38, G38_⟩ := c.def_ 37
  have F38 : Fun K "names_used" "names_used" sNus (He.ga K "names_used") fd38 := He5.fun_of G38_
  have g38 := He.glo_ok X G (c.fact 37)
  obtain ⟨fd39, G39_⟩ := c.def_ 38
  have F39 : Fun K "names_called" "names_called" sNcl (He.ga K "names_called") fd39 := He5.fun_of G39_
  have g39 := He.glo_ok X G (c.fact 38)
  obtain ⟨fd40, G40_⟩ := c.def_ 39
  have F40 : Fun K "names_asked" "names_asked" sNas (He.ga K "names_asked") fd40 := He5.fun_of G40_
  have g40 := He.glo_ok X G (c.fact 39)
  obtain ⟨fd41, G41_⟩ := c.def_ 40
  have F41 : Fun K "check_commands" "check_commands" sCco (He.ga K "check_commands") fd41 := He5.fun_of G41_
  have g41 := He.glo_ok X G (c.fact 40)
  obtain ⟨fd42, G42_⟩ := c.def_ 41
  have F42 : Fun K "check_name" "check_name" sCnm (He.ga K "check_name") fd42 := He5.fun_of G42_
  have g42 := He.glo_ok X G (c.fact 41)
  obtain ⟨fd43, G43_⟩ := c.def_ 42
  have F43 : Fun K "uses" "uses" sUse (He.ga K "uses") fd43 := He5.fun_of G43_
  have g43 := He.glo_ok X G (c.fact 42)
  obtain ⟨fd44, G44_⟩ := c.def_ 43
  have F44 : Fun K "check_used" "check_used" sCus (He.ga K "check_used") fd44 := He5.fun_of G44_
  have g44 := He.glo_ok X G (c.fact 43)
  obtain ⟨fd45, G45_⟩ := c.def_ 44
  have F45 : Fun K "define" "define" sDfn (He.ga K "define") fd45 := He5.fun_of G45_
  have g45 := He.glo_ok X G (c.fact 44)
  obtain ⟨fd46, G46_⟩ := c.def_ 45
  have F46 : Fun K "run_command" "run_command" sRcm (He.ga K "run_command") fd46 := He5.fun_of G46_
  have g46 := He.glo_ok X G (c.fact 45)
  obtain ⟨fd47, G47_⟩ := c.def_ 46
  have F47 := G47_
  have MK_Book := He.mkr_ok (c.fact 46)
  obtain ⟨fd48, G48_⟩ := c.def_ 47
  have F48 : Fun K "set_capacity" "Book.set_capacity" sSc (He.ma K (He.ga K "Book") "set_capacity") fd48 := He5.fun_of G48_
  have M48 := He.meth_ok (c.fact 47)
  have D48 : DunOf K (He.ga K "Book") "set_capacity" (He.ma K (He.ga K "Book") "set_capacity") := ⟨M48.at_, M48.fn⟩
  obtain ⟨fd49, G49_⟩ := c.def_ 48
  have F49 : Fun K "capacity" "Book.capacity" sCap (wfP K (He.ga K "Book") "capacity") fd49 := He5.fun_of G49_
  have R49 := prop_ok (c.fact 48)
  obtain ⟨fd50, G50_⟩ := c.def_ 49
  have F50 : Fun K "__len__" "Book.__len__" sBln (He.ma K (He.ga K "Book") "__len__") fd50 := He5.fun_of G50_
  have M50 := He.meth_ok (c.fact 49)
  have D50 : DunOf K (He.ga K "Book") "__len__" (He.ma K (He.ga K "Book") "__len__") := ⟨M50.at_, M50.fn⟩
  obtain ⟨fd51, G51_⟩ := c.def_ 50
  have F51 : Fun K "history" "Book.history" sBhi (He.ma K (He.ga K "Book") "history") fd51 := He5.fun_of G51_
  have M51 := He.meth_ok (c.fact 50)
  have D51 : DunOf K (He.ga K "Book") "history" (He.ma K (He.ga K "Book") "history") := ⟨M51.at_, M51.fn⟩
  obtain ⟨fd52, G52_⟩ := c.def_ 51
  have F52 : Fun K "undo" "Book.undo" sUnd (He.ma K (He.ga K "Book") "undo") fd52 := He5.fun_of G52_
  have M52 := He.meth_ok (c.fact 51)
  have D52 : DunOf K (He.ga K "Book") "undo" (He.ma K (He.ga K "Book") "undo") := ⟨M52.at_, M52.fn⟩
  obtain ⟨fd53, G53_⟩ := c.def_ 52
  have F53 : Fun K "redo" "Book.redo" sRed (He.ma K (He.ga K "Book") "redo") fd53 := He5.fun_of G53_
  have M53 := He.meth_ok (c.fact 52)
  have D53 : DunOf K (He.ga K "Book") "redo" (He.ma K (He.ga K "Book") "redo") := ⟨M53.at_, M53.fn⟩
  obtain ⟨fd54, G54_⟩ := c.def_ 53
  have F54 : Fun K "apply" "Book.apply" sApl (He.ma K (He.ga K "Book") "apply") fd54 := He5.fun_of G54_
  have M54 := He.meth_ok (c.fact 53)
  have D54 : DunOf K (He.ga K "Book") "apply" (He.ma K (He.ga K "Book") "apply") := ⟨M54.at_, M54.fn⟩
  obtain ⟨fd55, G55_⟩ := c.def_ 54
  have F55 : Fun K "_law_draws" "_law_draws" sDraws (He.ga K "_law_draws") fd55 := He5.fun_of G55_
  have g55 := He.glo_ok X G (c.fact 54)
  obtain ⟨fd56, G56_⟩ := c.def_ 55
  have F56 : Fun K "_law_draw" "_law_draw" sDraw (He.ga K "_law_draw") fd56 := He5.fun_of G56_
  have g56 := He.glo_ok X G (c.fact 55)
  obtain ⟨fd57, G57_⟩ := c.def_ 56
  have F57 : Fun K "_law_pick" "_law_pick" sPick (He.ga K "_law_pick") fd57 := He5.fun_of G57_
  have g57 := He.glo_ok X G (c.fact 56)
  obtain ⟨fd58, G58_⟩ := c.def_ 57
  have F58 : Fun K "_law_same" "_law_same" sSame (He.ga K "_law_same") fd58 := He5.fun_of G58_
  have g58 := He.glo_ok X G (c.fact 57)
  obtain ⟨fd59, G59_⟩ := c.def_ 58
  have F59 : Fun K "_law_field" "_law_field" sField (He.ga K "_law_field") fd59 := He5.fun_of G59_
  have g59 := He.glo_ok X G (c.fact 58)
  obtain ⟨fd60, G60_⟩ := c.def_ 59
  have F60 : Fun K "_law_try" "_law_try" sTry (He.ga K "_law_try") fd60 := He5.fun_of G60_
  have g60 := He.glo_ok X G (c.fact 59)
  obtain ⟨fd61, G61_⟩ := c.def_ 60
  have F61 : Fun K "_law_letters" "_law_letters" sLetters (He.ga K "_law_letters") fd61 := He5.fun_of G61_
  have g61 := He.glo_ok X G (c.fact 60)
  obtain ⟨fd62, G62_⟩ := c.def_ 61
  have F62 : Fun K "_law_names" "_law_names" sNam (He.ga K "_law_names") fd62 := He5.fun_of G62_
  have g62 := He.glo_ok X G (c.fact 61)
  obtain ⟨fd63, G63_⟩ := c.def_ 62
  have F63 : Fun K "_law_beyond_capacity" "_law_beyond_capacity" sBey (He.ga K "_law_beyond_capacity") fd63 := He5.fun_of G63_
  have g63 := He.glo_ok X G (c.fact 62)
  obtain ⟨fd64, G64_⟩ := c.def_ 63
  have F64 : Fun K "law" "law" sLaw (He.ga K "law") fd64 := He5.fun_of G64_
  have g64 := He.glo_ok X G (c.fact 63)
  have h_FillError := He.glo_ok X G (c.fact 64)
  have h_Missing := He.glo_ok X G (c.fact 65)
  have e1 := He.glo_ok X G (c.fact 66)
  obtain ⟨E1, xm1⟩ := err_ok e1 (c.fact 67)
  have e2 := He.glo_ok X G (c.fact 68)
  obtain ⟨E2, xm2⟩ := err_ok e2 (c.fact 69)
  have gT_Template := He.glo_ok X G (c.fact 70)
  have TC : TmC K (He.ga K "Template") := ⟨He.cls_ok (c.fact 71), He.noat_ok (c.fact 72), He.noat_ok (c.fact 73)⟩
  have gT_Begun := He.glo_ok X G (c.fact 74)
  have TB_ : BgC K (He.ga K "Begun") := ⟨He.cls_ok (c.fact 75), He.noat_ok (c.fact 76), He.noat_ok (c.fact 77), He.noat_ok (c.fact 78)⟩
  have gT_Book := He.glo_ok X G (c.fact 79)
  have TK : BkC K (He.ga K "Book") := ⟨He.cls_ok (c.fact 80), He.noat_ok (c.fact 81), He.noat_ok (c.fact 82), He.noat_ok (c.fact 83), He.noat_ok (c.fact 84), He.noat_ok (c.fact 85), He.noat_ok (c.fact 86), He.noat_ok (c.fact 87)⟩
  obtain ⟨t_LEAST_LETTERS, h_LEAST_LETTERS⟩ := He.int_ok X G (c.fact 88)
  obtain ⟨t_MOST_LETTERS, h_MOST_LETTERS⟩ := He.int_ok X G (c.fact 89)
  obtain ⟨t_LOWERCASE, h_LOWERCASE⟩ := He.str_ok X G (c.fact 90)
  obtain ⟨t_EMPTY_TEXT, h_EMPTY_TEXT⟩ := He.str_ok X G (c.fact 91)
  obtain ⟨t_PLAIN_BLANK, h_PLAIN_BLANK⟩ := He.str_ok X G (c.fact 92)
  obtain ⟨t_MOST_MODULUS, h_MOST_MODULUS⟩ := He.int_ok X G (c.fact 93)
  obtain ⟨t_MOST_NAME, h_MOST_NAME⟩ := He.int_ok X G (c.fact 94)
  obtain ⟨t_MOST_NAMES, h_MOST_NAMES⟩ := He.int_ok X G (c.fact 95)
  have m_enumerate := He.free_ok X G (c.fact 96)
  have m_int := He.free_ok X G (c.fact 97)
  have m_list := He.free_ok X G (c.fact 98)
  have m_len := He.free_ok X G (c.fact 99)
  have m_isinstance := He.free_ok X G (c.fact 100)
  have m_tuple := He.free_ok X G (c.fact 101)
  have m_all := He.free_ok X G (c.fact 102)
  have m_zip := He.free_ok X G (c.fact 103)
  have m_bool := He.free_ok X G (c.fact 104)
  have m_str := He.free_ok X G (c.fact 105)
  have m_min := He.free_ok X G (c.fact 106)
  have m_max := He.free_ok X G (c.fact 107)
  have m_range := He.free_ok X G (c.fact 108)
  have m_sorted := He.free_ok X G (c.fact 109)
  have m_reversed := He.free_ok X G (c.fact 110)
  have m_dict := He.free_ok X G (c.fact 111)
  have gU_ASKING_KINDS := He.glo_ok X G (c.fact 112)
  have U_ASKING_KINDS := fun H => He.tupB_ok (c.fact 113) H
  have gU_WORD_KINDS := He.glo_ok X G (c.fact 114)
  have U_WORD_KINDS := fun H => He.tupB_ok (c.fact 115) H
  have kw0 := of_decide_eq_true (c.fact 116)
  have kw1_ := of_decide_eq_true (c.fact 117)
  have kw2_ := of_decide_eq_true (c.fact 118)
  have kw3 := of_decide_eq_true (c.fact 119)
  have nlim := of_decide_eq_true (c.fact 120)
  have gD_HOLDING_WORDS := He.glo_ok X G (c.fact 121)
  obtain ⟨es_HOLDING_WORDS, n_HOLDING_WORDS, D_HOLDING_WORDS⟩ := c'.dic 0
  have gD_COMMANDS := He.glo_ok X G (c.fact 122)
  obtain ⟨es_COMMANDS, n_COMMANDS, D_COMMANDS⟩ := c'.dic 1
  have V_COMMANDS := c.fact 123
  have k_COMMANDS_0 := kdct_of D_COMMANDS V_COMMANDS 0
  have k_COMMANDS_1 := kdct_of D_COMMANDS V_COMMANDS 1
  have k_COMMANDS_2 := kdct_of D_COMMANDS V_COMMANDS 2
  have k_COMMANDS_3 := kdct_of D_COMMANDS V_COMMANDS 3
  have e_ := hfa.symm.trans g64
  cases e_
  obtain ⟨⟨oc_0, od_0, kVv_0, dc_0, pm_0, an_0, cdv_0, ct_0, sl_0, rfl, lw_0, cw_0⟩, kw_0⟩ := id F64
  obtain ⟨cc_0, rfl⟩ := He.codeIn_ref cw_0
  obtain ⟨hPt_0, nT_0, hC_0⟩ := law_tab (p := fun K => He.ga K "law") c (List.Mem.head _) lw_0 rfl
  have hC'_0 := PySem.W.codeHd_of_K X hC_0
  have qT_0 : codT K (He.ga K "law") = (cc_0, He.tabOf K cc_0) := by unfold codT; rw [lw_0]
  obtain ⟨⟨oc_1, od_1, kVv_1, dc_1, pm_1, an_1, cdv_1, ct_1, sl_1, rfl, lw_1, cw_1⟩, kw_1⟩ := id F63
  obtain ⟨cc_1, rfl⟩ := He.codeIn_ref cw_1
  obtain ⟨hPt_1, nT_1, hC_1⟩ := law_tab (p := fun K => He.ga K "_law_beyond_capacity") c (List.Mem.tail _ (List.Mem.head _)) lw_1 rfl
  have hC'_1 := PySem.W.codeHd_of_K X hC_1
  have qT_1 : codT K (He.ga K "_law_beyond_capacity") = (cc_1, He.tabOf K cc_1) := by unfold codT; rw [lw_1]
  have dP_1_0 : He.tabOf K cc_1 ≠ He.tabOf K cc_0 := by
    have q := of_decide_eq_true (c.fact 124)
    rw [qT_1, qT_0] at q
    exact q
  clear qT_0
  clear qT_1
  generalize He.tabOf K cc_0 = Pt_0 at hPt_0 nT_0 hC_0 hC'_0 dP_1_0
  generalize He.tabOf K cc_1 = Pt_1 at hPt_1 nT_1 hC_1 hC'_1 dP_1_0
  refine ⟨PySem.W.fnOf "law" "law" (defArgs sLaw) (defBody sLaw) (defScope sLaw) .none kVv_0 dc_0 pm_0 an_0 (.ref cc_0) ct_0, [(cc_0, Pt_0), (cc_1, Pt_1)], spLaw K Pt_0 Pt_1, (fun p hp => by rcases List.mem_cons.mp hp with z | z; (rw [z]; exact hPt_0); (rw [List.mem_singleton.mp z]; exact hPt_1)), (fun p hp => by rcases List.mem_cons.mp hp with z | z; (rw [z]; exact nT_0); (rw [List.mem_singleton.mp z]; exact nT_1)), (fun p hp => by rcases List.mem_cons.mp hp with z | z; (rw [z]; exact hC'_0); (rw [List.mem_singleton.mp z]; exact hC'_1)), fun s v => .of_eq rfl, fun H a ns _ _ hH hS => ⟨a, ns, rfl, hS, hH _ (List.Mem.head _), hH _ (List.Mem.tail _ (List.Mem.head _)), fun _ => rfl⟩, fun base _ _ TB => ?_⟩
  have d1 := F1.binds (ps := ["letters"]) fun _ _ _ _ _ _ us hl => match us, hl with | [_], _ => rfl
  have d2 := F2.binds (ps := ["self"]) fun _ _ _ _ _ _ us hl => match us, hl with | [_], _ => rfl
  have d3 := F3.binds (ps := ["self", "limit"]) fun _ _ _ _ _ _ us hl => match us, hl with | [_, _], _ => rfl
  have d4 := F4.binds (ps := ["letters", "turn"]) fun _ _ _ _ _ _ us hl => match us, hl with | [_, _], _ => rfl
  have d5 := F5.binds (ps := ["item"]) fun _ _ _ _ _ _ us hl => match us, hl with | [_], _ => rfl
  have d6 := F6.binds (ps := ["letters", "text", "at"]) fun _ _ _ _ _ _ us hl => match us, hl with | [_, _, _], _ => rfl
  have d7 := F7.binds (ps := ["letters", "text"]) fun _ _ _ _ _ _ us hl => match us, hl with | [_, _], _ => rfl
  have d8 := F8.binds (ps := ["letters", "item"]) fun _ _ _ _ _ _ us hl => match us, hl with | [_, _], _ => rfl
  have d9 := F9.binds (ps := ["letters", "row"]) fun _ _ _ _ _ _ us hl => match us, hl with | [_, _], _ => rfl
  have d10 := F10.binds (ps := ["self", "letters", "text"]) fun _ _ _ _ _ _ us hl => match us, hl with | [_, _, _], _ => rfl
  have d11 := F11.binds (ps := ["self"]) fun _ _ _ _ _ _ us hl => match us, hl with | [_], _ => rfl
  have d12 := F12.binds (ps := ["letters", "before", "sign", "depth"]) fun _ _ _ _ _ _ us hl => match us, hl with | [_, _, _, _], _ => rfl
  have d13 := F13.binds (ps := ["letters", "pattern"]) fun _ _ _ _ _ _ us hl => match us, hl with | [_, _], _ => rfl
  have d14 := F14.binds (ps := ["text", "at"]) fun _ _ _ _ _ _ us hl => match us, hl with | [_, _], _ => rfl
  have d15 := F15.binds (ps := ["letters", "text"]) fun _ _ _ _ _ _ us hl => match us, hl with | [_, _], _ => rfl
  have d16 := F16.binds (ps := ["text", "at"]) fun _ _ _ _ _ _ us hl => match us, hl with | [_, _], _ => rfl
  have d17 := F17.binds (ps := ["text"]) fun _ _ _ _ _ _ us hl => match us, hl with | [_], _ => rfl
  have d18 := F18.binds (ps := ["letters", "text"]) fun _ _ _ _ _ _ us hl => match us, hl with | [_, _], _ => rfl
  have d19 := F19.binds (ps := ["text"]) fun _ _ _ _ _ _ us hl => match us, hl with | [_], _ => rfl
  have d20 := F20.binds (ps := ["letters", "kind", "text"]) fun _ _ _ _ _ _ us hl => match us, hl with | [_, _, _], _ => rfl
  have d21 := F21.binds (ps := ["letters", "text", "at"]) fun _ _ _ _ _ _ us hl => match us, hl with | [_, _, _], _ => rfl
  have d22 := F22.binds (ps := ["text", "at"]) fun _ _ _ _ _ _ us hl => match us, hl with | [_, _], _ => rfl
  have d23 := F23.binds (ps := ["text", "at"]) fun _ _ _ _ _ _ us hl => match us, hl with | [_, _], _ => rfl
  have d24 := F24.binds (ps := ["letters", "text", "at"]) fun _ _ _ _ _ _ us hl => match us, hl with | [_, _, _], _ => rfl
  have d25 := F25.binds (ps := ["letters", "text"]) fun _ _ _ _ _ _ us hl => match us, hl with | [_, _], _ => rfl
  have d26 := F26.binds (ps := ["condition"]) fun _ _ _ _ _ _ us hl => match us, hl with | [_], _ => rfl
  have d27 := F27.binds (ps := ["program"]) fun _ _ _ _ _ _ us hl => match us, hl with | [_], _ => rfl
  have d28 := F28.binds (ps := ["program"]) fun _ _ _ _ _ _ us hl => match us, hl with | [_], _ => rfl
  have d29 := F29.binds (ps := ["program"]) fun _ _ _ _ _ _ us hl => match us, hl with | [_], _ => rfl
  have d30 := F30.binds (ps := ["self", "head"]) fun _ _ _ _ _ _ us hl => match us, hl with | [_, _], _ => rfl
  have d31 := F31.binds (ps := ["text", "at"]) fun _ _ _ _ _ _ us hl => match us, hl with | [_, _], _ => rfl
  have d32 := F32.binds (ps := ["letters", "text", "at"]) fun _ _ _ _ _ _ us hl => match us, hl with | [_, _, _], _ => rfl
  have d33 := F33.binds (ps := ["letters", "text", "at"]) fun _ _ _ _ _ _ us hl => match us, hl with | [_, _, _], _ => rfl
  have d34 := F34.binds (ps := ["programs"]) fun _ _ _ _ _ _ us hl => match us, hl with | [_], _ => rfl
  have d35 := F35.binds (ps := ["frames"]) fun _ _ _ _ _ _ us hl => match us, hl with | [_], _ => rfl
  have d36 := F36.binds (ps := ["frames", "text", "at"]) fun _ _ _ _ _ _ us hl => match us, hl with | [_, _, _], _ => rfl
  have d37 := F37.binds (ps := ["letters", "text"]) fun _ _ _ _ _ _ us hl => match us, hl with | [_, _], _ => rfl
  have d38 := F38.binds (ps := ["kind", "meant"]) fun _ _ _ _ _ _ us hl => match us, hl with | [_, _], _ => rfl
  have d39 := F39.binds (ps := ["kind", "meant"]) fun _ _ _ _ _ _ us hl => match us, hl with | [_, _], _ => rfl
  have d40 := F40.binds (ps := ["kind", "meant"]) fun _ _ _ _ _ _ us hl => match us, hl with | [_, _], _ => rfl
  have d41 := F41.binds (ps := ["commands"]) fun _ _ _ _ _ _ us hl => match us, hl with | [_], _ => rfl
  have d42 := F42.binds (ps := ["name"]) fun _ _ _ _ _ _ us hl => match us, hl with | [_], _ => rfl
  have d43 := F43.binds (ps := ["entries", "starts", "name"]) fun _ _ _ _ _ _ us hl => match us, hl with | [_, _, _], _ => rfl
  have d44 := F44.binds (ps := ["entries", "name", "kind", "meant"]) fun _ _ _ _ _ _ us hl => match us, hl with | [_, _, _, _], _ => rfl
  have d45 := F45.binds (ps := ["letters", "capacity", "entries", "command"]) fun _ _ _ _ _ _ us hl => match us, hl with | [_, _, _, _], _ => rfl
  have d46 := F46.binds (ps := ["letters", "capacity", "entries", "command"]) fun _ _ _ _ _ _ us hl => match us, hl with | [_, _, _, _], _ => rfl
  have d48 := F48.binds (ps := ["self", "most"]) fun _ _ _ _ _ _ us hl => match us, hl with | [_, _], _ => rfl
  have d49 := F49.binds (ps := ["self"]) fun _ _ _ _ _ _ us hl => match us, hl with | [_], _ => rfl
  have d50 := F50.binds (ps := ["self"]) fun _ _ _ _ _ _ us hl => match us, hl with | [_], _ => rfl
  have d51 := F51.binds (ps := ["self"]) fun _ _ _ _ _ _ us hl => match us, hl with | [_], _ => rfl
  have d52 := F52.binds (ps := ["self"]) fun _ _ _ _ _ _ us hl => match us, hl with | [_], _ => rfl
  have d53 := F53.binds (ps := ["self"]) fun _ _ _ _ _ _ us hl => match us, hl with | [_], _ => rfl
  have d55 := F55.binds (ps := ["_law_script"]) fun _ _ _ _ _ _ us hl => match us, hl with | [_], _ => rfl
  have d56 := F56.binds (ps := ["_law_rng", "_law_sides"]) fun _ _ _ _ _ _ us hl => match us, hl with | [_, _], _ => rfl
  have d57 := F57.binds (ps := ["_law_rng", "_law_things"]) fun _ _ _ _ _ _ us hl => match us, hl with | [_, _], _ => rfl
  have d58 := F58.binds (ps := ["_law_found", "_law_due"]) fun _ _ _ _ _ _ us hl => match us, hl with | [_, _], _ => rfl
  have d59 := F59.binds (ps := ["_law_e"]) fun _ _ _ _ _ _ us hl => match us, hl with | [_], _ => rfl
  have d60 := F60.binds (ps := ["_law_ask"]) fun _ _ _ _ _ _ us hl => match us, hl with | [_], _ => rfl
  have d61 := F61.binds (ps := ["_law_rng", "_law_my_most"]) fun _ _ _ _ _ _ us hl => match us, hl with | [_, _], _ => rfl
  have d62 := F62.binds (ps := ["_law_rng", "_law_many"]) fun _ _ _ _ _ _ us hl => match us, hl with | [_, _], _ => rfl
  have d63 := F63.binds (ps := ["_law_book", "_law_names_here", "_law_many", "_law_size"]) fun _ _ _ _ _ _ us hl => match us, hl with | [_, _, _, _], _ => rfl
  have T : SameT mg := ⟨m_isinstance, m_list, m_tuple, m_len, m_all, m_zip, m_bool, m_int, m_str⟩
  have nsI : ∀ o : Option (Option Value), o.any Option.isSome = true → ∃ u, o = some (some u) := fun o h => match o, h with | some (some u), _ => ⟨u, rfl⟩
  have kW : ∀ k, k ≤ 3 → ∃ u, PySem.W.nsIn K (He.ga K "HOLDING_WORDS") (kwS k) = some (some u) := fun k hk => match k, hk with | 0, _ => nsI _ kw0 | 1, _ => nsI _ kw1_ | 2, _ => nsI _ kw2_ | 3, _ => nsI _ kw3
  have kC : ∀ e : Mng, KDct K w (He.ga K "COMMANDS") e.kind (.int 3) := fun e => match e with | .cd _ => k_COMMANDS_0 | .pg _ => k_COMMANDS_1
  have cDr : Cl l.prog w K mg base "_law_draw" 1 ["_law_rng", "_law_sides"] spDraw (He.ga K "_law_draw") _ := ⟨ok_draw F56 m_int m_len, g56, F56.kp, d56⟩
  have cPk : Cl l.prog w K mg base "_law_pick" 2 ["_law_rng", "_law_things"] (spPick K) (He.ga K "_law_pick") _ := ⟨ok_pick F57 F56 d56 g56 m_int m_len, g57, F57.kp, d57⟩
  have cBk : Cl l.prog w K mg base "is_blank" 1 ["item"] spBk (He.ga K "is_blank") _ := ⟨ok_bk F5 m_len, g5, F5.kp, d5⟩
  have cIs : Cl l.prog w K mg base "is_turn" 1 ["letters", "turn"] spIs (He.ga K "is_turn") _ := ⟨ok_is F4 m_sorted, g4, F4.kp, d4⟩
  have cItx : Cl l.prog w K mg base "item_text" 2 ["letters", "item"] spIt (He.ga K "item_text") _ := ⟨ok_it F8 cBk ⟨_, h_PLAIN_BLANK⟩, g8, F8.kp, d8⟩
  have cRt : Cl l.prog w K mg base "row_text" 3 ["letters", "row"] (spRt K) (He.ga K "row_text") _ := ⟨ok_rt F9 m_len cItx ⟨_, h_EMPTY_TEXT⟩, g9, F9.kp, d9⟩
  have cBw : Cl l.prog w K mg base "blank_width" 2 ["letters", "text", "at"] spBw (He.ga K "blank_width") _ := ⟨ok_bw F6 m_len cIs ⟨_, h_PLAIN_BLANK⟩, g6, F6.kp, d6⟩
  have cRd : Cl l.prog w K mg base "read_row" 3 ["letters", "text"] spRd (He.ga K "read_row") _ := ⟨ok_rd F7 m_len cBw ⟨_, h_EMPTY_TEXT⟩, g7, F7.kp, d7⟩
  have cCL : Cl l.prog w K mg base "check_letters" 1 ["letters"] spCLn (He.ga K "check_letters") _ := ⟨ok_checkLn F1 m_enumerate m_len ⟨_, h_LEAST_LETTERS⟩ ⟨_, h_MOST_LETTERS⟩ ⟨_, h_LOWERCASE⟩, g1, F1.kp, d1⟩
  have GCL : FnOk l.prog w K mg base (L2.CX l.prog w) 3 (He.ga K "check_letters") _ ["letters"] (spCL (He.ga K "InvalidLetters")) := ok_checkL F1 E1 F2 d2 a2 y2 m_enumerate m_len ⟨_, h_LEAST_LETTERS⟩ ⟨_, h_MOST_LETTERS⟩ ⟨_, h_LOWERCASE⟩
  have GTI : FnOk l.prog w K mg base CX0 4 (He.ma K (He.ga K "Template") "__init__") _ ["self", "letters", "text"] (spTi (He.ga K "Template")) := ok_ti F10 TC m_tuple cCL cRd
  have GT : FnOk l.prog w K mg base CX0 4 (He.ma K (He.ga K "Template") "text") _ ["self"] (spText (He.ga K "Template")) := ok_text F11 TC cRt
  have cCan : Cl l.prog w K mg base "can_stand" 1 ["letters", "before", "sign", "depth"] spCan (He.ga K "can_stand") _ := ⟨ok_can F12, g12, F12.kp, d12⟩
  have cCkp : Cl l.prog w K mg base "check_pattern" 2 ["letters", "pattern"] spCkp (He.ga K "check_pattern") _ := ⟨ok_ckp F13 m_enumerate cCan, g13, F13.kp, d13⟩
  have cRnm : Cl l.prog w K mg base "read_name" 1 ["text", "at"] spRnm (He.ga K "read_name") _ := ⟨ok_rnm F14 m_len ⟨_, h_LOWERCASE⟩ ⟨_, h_MOST_NAME⟩, g14, F14.kp, d14⟩
  have cTtx : Cl l.prog w K mg base "template_text" 6 ["letters", "text"] spTtx (He.ga K "template_text") _ := ⟨ok_ttx F15 TC MK_Template gT_Template GTI d10 M11 GT d11, g15, F15.kp, d15⟩
  have cClo : Cl l.prog w K mg base "closing_place" 1 ["text", "at"] spClo (He.ga K "closing_place") _ := ⟨ok_clo F16 m_len m_range, g16, F16.kp, d16⟩
  have cTwo : Cl l.prog w K mg base "two_parts" 1 ["text"] spTwo (He.ga K "two_parts") _ := ⟨ok_two F17 m_len, g17, F17.kp, d17⟩
  have cMof : Cl l.prog w K mg base "match_of" 3 ["letters", "text"] spMof (He.ga K "match_of") _ := ⟨ok_mof F18 cCkp, g18, F18.kp, d18⟩
  have cLof : Cl l.prog w K mg base "length_of" 2 ["text"] spLof (He.ga K "length_of") _ := ⟨ok_lof F19 cTwo ⟨_, h_MOST_MODULUS⟩ m_range m_str, g19, F19.kp, d19⟩
  have cTof : Cl l.prog w K mg base "templates_of" 7 ["letters", "kind", "text"] spTof (He.ga K "templates_of") _ := ⟨ok_tof F20 cTwo cTtx, g20, F20.kp, d20⟩
  have cRsm : Cl l.prog w K mg base "read_simple" 8 ["letters", "text", "at"] spRsm (He.ga K "read_simple") _ := ⟨ok_rsm F21 m_len cRnm cClo cMof cLof cTof gD_HOLDING_WORDS D_HOLDING_WORDS kW, g21, F21.kp, d21⟩
  have cBeg : Cl l.prog w K mg base "begun_conditions" 1 ["text", "at"] spBeg (He.ga K "begun_conditions") _ := ⟨ok_beg F22 m_len, g22, F22.kp, d22⟩
  have cLnk : Cl l.prog w K mg base "linking_word" 1 ["text", "at"] spLnk (He.ga K "linking_word") _ := ⟨ok_lnk F23, g23, F23.kp, d23⟩
  have cRdc : Cl l.prog w K mg base "read_condition" 9 ["letters", "text", "at"] spRdc (He.ga K "read_condition") _ := ⟨ok_rdc F24 m_len cBeg cRsm cLnk, g24, F24.kp, d24⟩
  have cPrs : Cl l.prog w K mg base "parse_condition" 10 ["letters", "text"] spPrs (He.ga K "parse_condition") _ := ⟨ok_prs F25 m_len cRdc, g25, F25.kp, d25⟩
  have cNms : Cl l.prog w K mg base "condition_names" 1 ["condition"] spNms (He.ga K "condition_names") _ := ⟨ok_nms F26 m_reversed m_list, g26, F26.kp, d26⟩
  have cPo : Cl l.prog w K mg base "parts_of" 1 ["program"] spPo (He.ga K "parts_of") _ := ⟨ok_po F27 gU_ASKING_KINDS U_ASKING_KINDS, g27, F27.kp, d27⟩
  have GNo : GFn2 l.prog w K mg base 2 (He.ga K "nodes_of") _ ["program"] ["waiting"] spNd := ok_no F28 m_reversed cPo
  have cPnm : Cl l.prog w K mg base "program_names" 6 ["program"] spPnm (He.ga K "program_names") _ := ⟨ok_pnm F29 cNms GNo g28 F28.kp d28 m_list gU_ASKING_KINDS U_ASKING_KINDS, g29, F29.kp, d29⟩
  have GBg : FnOk l.prog w K mg base CX0 1 (He.ma K (He.ga K "Begun") "__init__") _ ["self", "head"] (spBgI (He.ga K "Begun")) := ok_bgi F30 TB_
  have cBo : Cl l.prog w K mg base "block_of" 1 ["programs"] spBo (He.ga K "block_of") _ := ⟨ok_bo F34 m_len, g34, F34.kp, d34⟩
  have cTpe : Cl l.prog w K mg base "template_end" 1 ["text", "at"] spTpe (He.ga K "template_end") _ := ⟨ok_tpe F31 m_len, g31, F31.kp, d31⟩
  have cRlf : Cl l.prog w K mg base "read_leaf" 7 ["letters", "text", "at"] spRlf (He.ga K "read_leaf") _ := ⟨ok_rlf F32 m_len cRnm cTtx cTpe gU_WORD_KINDS U_WORD_KINDS, g32, F32.kp, d32⟩
  have cRhd : Cl l.prog w K mg base "read_head" 10 ["letters", "text", "at"] spRhd (He.ga K "read_head") _ := ⟨ok_rhd F33 m_len cRdc gU_ASKING_KINDS U_ASKING_KINDS, g33, F33.kp, d33⟩
  have cCbr : Cl l.prog w K mg base "close_bracket" 2 ["frames"] (spCbr (He.ga K "Begun")) (He.ga K "close_bracket") _ := ⟨ok_cbr F35 m_len cBo TB_, g35, F35.kp, d35⟩
  have cNxp : Cl l.prog w K mg base "next_place" 3 ["frames", "text", "at"] (spNxp (He.ga K "Begun")) (He.ga K "next_place") _ := ⟨ok_nxp F36 m_len cCbr, g36, F36.kp, d36⟩
  have cPpr : Cl l.prog w K mg base "parse_program" 11 ["letters", "text"] spPpr (He.ga K "parse_program") _ := ⟨ok_ppr F37 cRhd cRlf cBo TB_ cNxp MK_Begun gT_Begun GBg d30, g37, F37.kp, d37⟩
  have cNus : Cl l.prog w K mg base "names_used" 7 ["kind", "meant"] spNus (He.ga K "names_used") _ := ⟨ok_nus F38 cNms cPnm, g38, F38.kp, d38⟩
  have cNcl : Cl l.prog w K mg base "names_called" 6 ["kind", "meant"] spNcl (He.ga K "names_called") _ := ⟨ok_ncl F39 GNo g28 F28.kp d28, g39, F39.kp, d39⟩
  have cNas : Cl l.prog w K mg base "names_asked" 6 ["kind", "meant"] spNas (He.ga K "names_asked") _ := ⟨ok_nas F40 cNms GNo g28 F28.kp d28 gU_ASKING_KINDS U_ASKING_KINDS, g40, F40.kp, d40⟩
  have GL : FnOk l.prog w K mg base CX0 1 (He.ma K (He.ga K "LimitReached") "__init__") _ ["self", "limit"] (spI1F K (He.ga K "LimitReached") "LimitReached" "limit") := ok_initLR F3 E2 nlim
  have cCco : Cl l.prog w K mg base "check_commands" 1 ["commands"] (spCco K w (He.ga K "COMMANDS")) (He.ga K "check_commands") _ := ⟨ok_cco m_enumerate F41 m_len gD_COMMANDS ⟨_, _, D_COMMANDS⟩, g41, F41.kp, d41⟩
  have cCnm : Cl l.prog w K mg base "check_name" 1 ["name"] spCnm (He.ga K "check_name") _ := ⟨ok_cnm F42 m_len ⟨_, h_LOWERCASE⟩ ⟨_, h_MOST_NAME⟩, g42, F42.kp, d42⟩
  have cUse : Cl l.prog w K mg base "uses" 1 ["entries", "starts", "name"] spUse0 (He.ga K "uses") _ := ⟨ok_use F43 m_list, g43, F43.kp, d43⟩
  have cCus : Cl l.prog w K mg base "check_used" 8 ["entries", "name", "kind", "meant"] spCus0 (He.ga K "check_used") _ := ⟨ok_cus F44 cNcl cNas cNus cUse, g44, F44.kp, d44⟩
  have GDf : FnOk l.prog w K mg base (L2.CX l.prog w) 12 (He.ga K "define") _ ["letters", "capacity", "entries", "command"] (spDfn0 (He.ga K "LimitReached")) := ok_dfn m_len F45 E2 a3 y3 GL d3 cCnm cPrs cPpr cCus
  have GRc : FnOk l.prog w K mg base (L2.CX l.prog w) 13 (He.ga K "run_command") _ ["letters", "capacity", "entries", "command"] (spDfn0 (He.ga K "LimitReached")) := ok_rcm F46 GDf g45 F45.kp d45
  have GSc : FnOk l.prog w K mg base (L2.CX l.prog w) 3 (He.ma K (He.ga K "Book") "set_capacity") _ ["self", "most"] (spSc (He.ga K "Book") (He.ga K "LimitReached")) := ok_sc F48 TK m_max m_len ⟨_, h_MOST_NAMES⟩ E2 a3 y3 GL d3
  have GBI : FnOk l.prog w K mg base (L2.CX l.prog w) 4 (He.ma K (He.ga K "Book") "__init__") _ ["self", "letters", "capacity"] (spBkI (He.ga K "Book") (He.ga K "LimitReached") (He.ga K "InvalidLetters")) := ok_bki F47 TK GCL g1 F1.kp d1 M48 GSc d48
  obtain ⟨dsI, vI, bI⟩ := bki_def F47
  have kI := kb_bki F47
  have GCp : FnOk l.prog w K mg base CX0 1 (wfP K (He.ga K "Book") "capacity") _ ["self"] (spCap (He.ga K "Book")) := ok_cap F49 TK
  have GLn : FnOk l.prog w K mg base CX0 1 (He.ma K (He.ga K "Book") "__len__") _ ["self"] (spBln (He.ga K "Book")) := ok_bln F50 TK m_len
  have GHi : FnOk l.prog w K mg base CX0 1 (He.ma K (He.ga K "Book") "history") _ ["self"] (spBhi (He.ga K "Book")) := ok_bhi F51 TK m_len
  have GUn : FnOk l.prog w K mg base CX0 1 (He.ma K (He.ga K "Book") "undo") _ ["self"] (spUnd (He.ga K "Book")) := ok_und F52 TK m_len
  have GRe : FnOk l.prog w K mg base CX0 1 (He.ma K (He.ga K "Book") "redo") _ ["self"] (spRed (He.ga K "Book")) := ok_red F53 TK m_len
  have GAp := ok_apl F54 TK m_dict cCco kC GRc g46 F46.kp d46
  have cDs : Cl l.prog w K mg base "_law_draws" 1 ["_law_script"] (spDraws K) (He.ga K "_law_draws") _ := ⟨ok_draws F55 m_int m_list, g55, F55.kp, d55⟩
  have cLt : Cl l.prog w K mg base "_law_letters" 3 ["_law_rng", "_law_my_most"] spLetters (He.ga K "_law_letters") _ := ⟨ok_letters F61 F56 d56 g56 F57 d57 g57 m_int m_len m_min m_range, g61, F61.kp, d61⟩
  have cSm : Cl l.prog w K mg base "_law_same" 3 ["_law_found", "_law_due"] (spSm K 3) (He.ga K "_law_same") _ := ⟨ok_same F58 T d58 g58 3, g58, F58.kp, d58⟩
  have cNm : Cl l.prog w K mg base "_law_names" 3 ["_law_rng", "_law_many"] spNam (He.ga K "_law_names") _ := ⟨ok_nam F62 m_int m_range cDr cPk, g62, F62.kp, d62⟩
  have cBy : Cl l.prog w K mg base "_law_beyond_capacity" 18 ["_law_book", "_law_names_here", "_law_many", "_law_size"] (spBey (He.ga K "Book") (T77 Pt_0 Pt_1)) (He.ga K "_law_beyond_capacity") _ := ⟨ok_bey lw_1 cw_1 (TB _ (List.Mem.tail _ (List.Mem.head _))) (Ne.symm dP_1_0) m_len m_range TK R49 GCp d49 D50 GLn d50 M48 GSc (kb_sc F48) d48 M54 GAp M52 GUn d52 M53 GRe d53 M51 GHi d51 h_FillError h_Missing (ok_field F59) g59 F59.kp d59 F60 g60 d60 E2 xm2 nlim, g63, F63.kp, d63⟩
  exact ok_law lw_0 cw_0 (TB _ (List.Mem.head _)) (Ne.symm dP_1_0) m_int m_len m_max m_range ⟨_, h_MOST_NAMES⟩ TK R49 GCp d49 D50 GLn d50 M48 GSc (kb_sc F48) d48 M54 GAp M52 GUn d52 M53 GRe d53 M51 GHi d51
    MK_Book gT_Book GBI bI vI kI h_FillError h_Missing (ok_field F59) g59 F59.kp d59 F60 g60 d60 E2 xm2 nlim E1 xm1 cDs cLt cNm cSm cDr cPk cBy
end Own
open PySem PySem.W PySem.Calls PyProof.Rows
set_option maxHeartbeats 0 in
theorem PySem.Challenge.cw_ownfill_k77_capacities_of_books_holds : PySem.Challenge.rw_ownfill_k77_capacities_of_books.Holds := by
  w_on; o_law
  refine HandSHeadRun.head_any (r := Own.hR) (q := view Own.hR.prog [134]) (H := Own.hk) (ob := Own.hob) (M := 11000) (loose := Own.hnames) (d := HandSHeadRun.topDef Own.hR.prog 134) (kwd := []) (fun s => Own.obsD_eq s) (by kernel_rfl) (fun s => by kernel_rfl) Own.hrun (by kernel_rfl) (by kernel_rfl) (by kernel_rfl) (by rfl) (by first | assumption | decide +kernel) (by decide +kernel) ⟨rfl, rfl, rfl, rfl, rfl, by decide +kernel⟩ ?hw ?hc
  case hw => w_witness2
  case hc =>
    refine LamX.walk_ofTsE (l := PySem.Challenge.rw_ownfill_k77_capacities_of_books) (n := 63) (k := 20) (x := "_law_script") (CX := fun _ => L2.CX0) rfl (by decide) (by kernel_rfl) ⟨rfl, by decide, by decide⟩ ?F (fun _ _ _ _ _ h => h)
    intro w mg fa h Y G hmg0
    obtain ⟨K, KX, c⟩ := Y
    have hmg : mg ("law" : PySem.Str) = some (.ref fa) := by
      have e : (HandSHeadRun.topDef Own.hR.prog 134).name = ("law" : PySem.Str) := by kernel_rfl
      rw [← e]
      exact hmg0
    exact ⟨K, KX, Own.ends KX G hmg c⟩
