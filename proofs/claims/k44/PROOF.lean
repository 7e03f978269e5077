import PyProof.Rows.All
import Wide.All
import OpenK.AllK
import Wide.FinOn
import HandS.Iter
import HandS.Comp
import HandS.Text
import HandS.Codes
import HandS.Call
import HandS.Walk
import PyProof.EnumMake
import KE.GoesMore
import KE.GoesEnum
import KE.GoesNew
import KE.KDictZip
import HandS.Dict
import HandS.List
import HandS.Words
import HandS.Replace
import HandS.ForMost
import HandS.IsInst
import HandS.Zip
import OpenK.KMore
import HandS.Exc
import HandS.ExcInit
import HandS.ExcField
import HandS.HotCalls
import HandS.Lambda
import HandS.WordsExc
import HandS.CallSlots
import KE.KTryMore
import HandS.More
import PyProof.CollectStr
import HandS.Property
import HandS.Style
import HandS.OwnEq
import HandS.TryOnly
import HandS.Star
import HandS.FStr
import HandS.RaiseMore
import HandS.TupAny
import HandS.MakeKw
import HandS.MakeKwOnly
import KE.KCallOwn
import HandS.ReplaceList
import HandS.ReplaceLit
import HandS.DictComp
import HandS.ClsMeth
import HandS.Defaults
import HandS.Nested
import HandS.StrMore
import HandS.SortRule
import HandS.SetBool
import HandS.Conv
import PyProof.SetRoads
import PyProof.Rows.SetFrom
import KE.KDictKeyed
import HandS.TupLen
import HandS.Wide
import HandS.RevRange
import HandS.Flow
import PyProof.Rows.StrLawsPart
import HandS.SortInts
import KE.KOpsOwn
import KE.GoesZip
import KE.KDictDisplayH
import HandS.SetFor
import HandS.Strs
import HandS.GenList
import HandS.Rev
import HandS.Head2
import HandS.HeadHook4
import HandS.HeadNt
import HandS.HeadWalk
import HandS.HeadEnd
import KE.KExcInit
import HandS.ExcBuiltin
import PyProof.NeKinds
import PyProof.Rows.EqBoolInt
import HandS.HeadHook3
import PySem.Challenge.RW_ownfill_k44_runs_step_by_step
set_option Elab.async false
set_option linter.all false
set_option maxRecDepth 100000
set_option maxHeartbeats 4000000
namespace Own
open PySem PySem.Spec PyProof.Rows L2

/-! ### walks that give a new tuple at each turn -/
/-- what an iterator of new tuples gives, in the library's words (GoesN), is a turn of the hand layer: at turn i the tuple's items are some vs with R i vs -/
theorem turn_tuples {P : Program} {w : World} {K : PySem.W.Frag} {tg : Expr} {I : Addr} {fp wr : List Addr} {n : Nat} {St : Nat → Heap → Prop}
    {Y : Nat → Heap → Value → Heap → Prop} {R : Nat → List V → Prop} {J : It} (W : ∀ A : Around, A.handled = none → GoesN P w A tg I fp wr n Y St)
    (hY : ∀ i h0 u h, Y i h0 u h → ∃ T vs us, u = .ref T ∧ h0.objs.size ≤ T ∧ vs.length ≤ sizeLine ∧ R i vs ∧ Vals vs us ∧ h.IsTuple T us.toArray)
    (mem : I ∈ fp) (obj : ∀ i h, St i h → ∀ b ∈ fp, ∃ o, h.get? b = some o ∧ ∀ v, o.data ≠ .cell v)
    (self : ∀ (A : Around) (i : Nat) (s : Shared) (Q : Value → Shared → Prop) (E : Value → Shared → Prop), St i s.heap → Q (.ref I) s → wpAny (model P w) A (pyIter (.ref I)) Q E s)
    (go : ∀ i H, J.go i H → i < n) (stop : ∀ i H, J.stop i H → i = n) (yld : ∀ i H T vs, H T = none → R i vs → J.yld i H (.ref T) (upd H T (.tup vs))) :
    Turn P w K tg J fp I St := by
  refine ⟨mem, obj, fun i h h' st k => (W callerA rfl).frame i h h' st k, ?_, ?_, self⟩
  · rintro X rfl rfl rfl calm i pins s σ H E I0 off st hg
    have G := W X.A (I0.ok.hd calm)
    refine G.goes i s (fun u s2 => ∃ x H', Inv X pins σ H' s2 ∧ RelV x u ∧ J.yld i H x H' ∧ St (i + 1) s2.heap ∧ ∀ b ∈ fp, H' b = none) E (go i H hg) st fun u h tk y st' rest _ => ?_
    obtain ⟨T, vs, us, rfl, young, len, r, rel, tup⟩ := hY _ _ _ _ y
    refine ⟨.ref T, upd H T (.tup vs), ?_, rfl, yld i H T vs (I0.hok.fresh young) r, st', fun b hb => ?_⟩
    · refine I0.turnedNew (t' := tk) (ch := fp) (fun b o nb q => rest b o (fun m => nb (G.sub b m)) q) off young ?_
      obtain ⟨o, e1, e2, e3⟩ := tup
      exact ⟨len, us, rel, o, e1, e2, e3⟩
    · obtain ⟨o, ho, _⟩ := obj i s.heap st b hb
      rw [upd_ne (Nat.ne_of_lt (Nat.lt_of_lt_of_le (Heap.lt_size ho) young))]
      exact (off b hb).1
  · rintro X rfl rfl rfl calm i pins s σ H E I0 off st hg
    have G := W X.A (I0.ok.hd calm)
    rw [stop i H hg] at st
    exact G.stops s (fun s1 => Inv X pins σ H s1) E st fun h tk rest _ => I0.turnedL (t' := tk) (ch := fp) (fun b o nb q => rest b o (fun m => nb (G.sub b m)) q) off

/-! ### a text's signs numbered -/
def ItE (z : Str) : It :=
  ⟨fun i _ => i < z.cps.size,
   fun i H v H' => ∃ T c, v = .ref T ∧ H T = none ∧ z.cps[i]? = some c ∧
     H' = upd H T (.tup [.int (i : Nat), .str ⟨#[c]⟩]),
   fun i _ => i = z.cps.size⟩

theorem turnE {P : Program} {w : World} {K : PySem.W.Frag} {elts : List Expr} {kk : Nat} {tpos : Pos} (z : Str) (t : Tok) (e it : Addr) (ne : e ≠ it) :
    Turn P w K (.Tuple elts kk tpos) (ItE z) [e, it] e
      (fun i h => (∃ old, IsEnum h e it (0 + (i : Int)) old) ∧ h.IsStrIter it (strIterType z) z t i) := by
  refine turn_tuples (R := fun i vs => ∃ c, z.cps[i]? = some c ∧ vs = [.int (i : Nat), .str ⟨#[c]⟩])
    (fun A hh => GoesN.enumFrom (elts := elts) (x1 := kk) (pos := tpos) 0 (Draws.text (prog := P) (w := w) (A := A.in1) hh it z t) e ne
      (fun m => ne (List.mem_singleton.mp m)) (List.mem_singleton.mpr rfl)) ?_ List.mem_cons_self ?_ ?_ (fun _ _ h => h) (fun _ _ h => h) ?_
  · rintro i h0 u h ⟨T, k, x, rfl, young, ⟨c, v, hc, rfl⟩, tup⟩
    rw [Int.zero_add] at tup
    exact ⟨T, _, [_, _], rfl, young, by show 2 ≤ sizeLine; decide, ⟨c, hc, rfl⟩, .cons ⟨_, rfl⟩ (.cons ⟨_, rfl⟩ .nil), tup⟩
  · rintro i h ⟨⟨old, he⟩, ⟨o, ho, _, hd⟩⟩
    simp only [List.forall_mem_cons]
    exact ⟨⟨_, he, fun v => nofun⟩, ⟨o, ho, fun v q => by rw [hd] at q; cases q⟩, fun _ q => nomatch q⟩
  · rintro A i s Q E ⟨⟨_, he⟩, _⟩ h
    exact wpAny_pyIter_enum he h
  · rintro i H T vs free ⟨c, hc, rfl⟩
    exact ⟨T, c, rfl, free, hc, rfl⟩

def iEnS (ta : TA) : TI := fun σ H R => ta σ H fun vs H1 => ∃ z, vs = [.str z] ∧ R (ItE z) H1

theorem pi_enS {X : Cx} {e : Expr} {ta : TA} {p pos tpos : Pos} {elts : List Expr} {kk : Nat}
    (hg : Gl X "enumerate") (hm : X.mg "enumerate" = none) (ha : PA X [e] ta)
    (hs : starEach [e] X.env = [(false, eval e X.env)] := by rfl) :
    PI X (.Tuple elts kk tpos) (.Call (.Name "enumerate" p) [e] [] pos) (iEnS ta) := by
  constructor
  intro pins s σ H R I h
  refine Call_ (ld_blt I hg hm boot_enumerate (PyProof.Rows.callWith_type1 (thn (ha.run pos pins s σ H _ I h) ?_) hs rfl))
  rintro us s1 ⟨vs, H1, I1, r1, z, rfl, q⟩
  obtain ⟨u, rfl, t, rfl⟩ := vals1 r1
  refine call_enumerate_str fun h' he hit _ hk => wpAny_pyIter_enum he ?_
  refine ⟨s1.heap.objs.size + 1, [s1.heap.objs.size + 1, s1.heap.objs.size], _, _, H1, rfl, I1.kept hk, turnE z t _ _ (Nat.succ_ne_self _), ⟨⟨.none, he⟩, hit⟩, ?_, q⟩
  have young : ∀ b, s1.heap.objs.size ≤ b → FpOk X pins H1 b := fun b lb => I1.fpOk lb (I1.hok.fresh lb)
  simp only [List.forall_mem_cons]
  exact ⟨young _ (Nat.le_add_right _ _), young _ (Nat.le_refl _), fun _ q => nomatch q⟩

theorem walkE {z : Str} : Walk (ItE z) z.cps.size (fun _ => True)
    (fun i H v H' => ∃ T c, v = .ref T ∧ H T = none ∧ z.cps[i]? = some c ∧
      H' = upd H T (.tup [.int (i : Nat), .str ⟨#[c]⟩])) :=
  ⟨fun _ _ h _ => h, fun _ _ => rfl, fun _ _ _ _ _ _ h => h⟩
end Own

namespace Own
open PySem PySem.Spec PyProof.Rows L2
/-! ### dict(zip(s, t)): a zip of any two iterators as a source of pairs -/
section
variable {P : Program} {w : World} {A : Around} {z TI TO T i1 i2 d : Addr} {f1 f2 : List Addr} {n1 n2 i : Nat} {s : Shared}
variable {R1 R2 : Nat → Value → Prop} {S1 S2 : Nat → Heap → Prop}

/-- one step of a zip of two whose last tuple is still out: first the one iterator, then the other, then a pair of its own -/
theorem zip_out {f : Bool} {o : Obj} {Q : Fin → Shared → Prop} {E : Value → Shared → Prop} (hz : IsZipHeld s.heap z TI TO T f)
    (hT : s.heap.get? T = some o) (hI : IsTupOf2 s.heap TI (.ref i1) (.ref i2))
    (k : ∀ g, IsZipHeld g z TI TO T true → Heap.SameBut z s.heap g →
      wpAny (model P w) A (Builtin.SmallTypes.nextOf (.ref i1)) (fun x s1 =>
        wpAny (model P w) A (Builtin.SmallTypes.nextOf (.ref i2)) (fun y s2 =>
          Q (.done (.ret (.ref s2.heap.objs.size)))
            { s2 with heap := s2.heap.push { cls := .type "tuple", data := .seq #[x, y] } }) E s1) E { s with heap := g }) :
    wpAny (model P w) A (Builtin.«zip.__next__» ⟨[.ref z], []⟩) Q E s := by
  refine wpAny_bind (m := field (.ref z) 2) (wpAny_field hz rfl (x := .bool false) rfl
    (wpAny_bind (m := field (.ref z) 3) (wpAny_field hz rfl (x := .ref TI) rfl (wpAny_bind (wpAny_seqItems hI rfl
      (wpAny_bind (m := Builtin.SmallTypes.ownedTupleIsFree (.ref z)) (wpAny_tupleHeld_zip hz hT fun g hg hs => ?_)))))))
  rw [if_neg Bool.false_ne_true]
  refine wpAny_bind ?_
  simp only [← Array.forIn_toList, List.forIn_cons, List.forIn_nil]
  refine wpAny_bind (wpAny_bind (wpAny_holding (wpAny_bind (m := Builtin.SmallTypes.nextOf (.ref i1)) ?_)))
  refine wpAny_mono (k g hg hs) (fun x s1 h1 => ?_) fun _ _ h => h
  refine wpAny_pure (wpAny_pure (wpAny_bind (wpAny_bind (wpAny_holding (wpAny_bind (m := Builtin.SmallTypes.nextOf (.ref i2)) ?_)))))
  refine wpAny_mono h1 (fun y s2 h2 => ?_) fun _ _ h => h
  exact wpAny_pure (wpAny_pure (wpAny_pure (wpAny_bind (m := newTuple [x, y]) (wpAny_newTuple (wpAny_pure h2)))))

/-- next(zip), told by its `__next__`: an item, or a StopIteration -/
theorem next_zip {Q : Option Value → Shared → Prop} {E : Value → Shared → Prop} (hy : s.TypeIs (.ref z) "zip")
    (h : wpAny (model P w) A.in1 (Builtin.«zip.__next__» ⟨[.ref z], []⟩) (fun r s' => ∃ v, r = .done (.ret v) ∧ Q (some v) s')
      (fun e s' => ∃ a o, e = .ref a ∧ s'.heap.get? a = some o ∧ o.cls = .type "StopIteration" ∧ Q none s') s) :
    wpAny (model P w) A (pyNext (.ref z)) Q E s := by
  unfold pyNext
  refine wpAny_bind (wpAny_attempt (wpAny_callSpecial?_slot (name := Str.ofString "__next__") hy F.slot_zip_next
    (wpAny_call_entry F.slot_zip_next hy F.entry_zip_next (wpAny_mono h (fun r s' ⟨v, e, q⟩ => ⟨v, e, wpAny_pure q⟩) fun e s' hs => ?_)
      (F.args_zip_next_1 _))))
  obtain ⟨a, o, rfl, ho, hc, q⟩ := hs
  exact wpAny_bind (wpAny_isInstance (T := "StopIteration") (b := true) ⟨o, ho, hc⟩ isSubtype_stop (wpAny_pure q))

/-- the zip at turn i: not asked yet, or its last tuple T is still out -/
def ZipAt (z TI TO i1 i2 d : Addr) (S1 S2 : Nat → Heap → Prop) (i : Nat) (h : Heap) : Prop :=
  IsTupOf2 h TI (.ref i1) (.ref i2) ∧ S1 i h ∧ S2 i h ∧
    ((IsZip h z TI TO .none ∧ ∃ u v, IsTupOf2 h TO u v) ∨
      ∃ T f o, IsZipHeld h z TI TO T f ∧ h.get? T = some o ∧ ∀ b ∈ [z, i1, i2, d], T ≠ b)

/-- all outside of some places stays -/
def Rest (l : List Addr) (h h' : Heap) : Prop := ∀ b o, b ∉ l → h.get? b = some o → h'.get? b = some o
theorem Rest.of {h h' : Heap} {x : Addr} (e : Heap.SameBut x h h') : Rest [x] h h' :=
  fun b o hb q => e.extBut b o (fun r => hb (List.mem_singleton.mpr r)) q
theorem Rest.push {h : Heap} {o : Obj} : Rest [] h (h.push o) := fun _ _ _ q => Heap.get?_push_of_some _ q
theorem Rest.seq {l1 l2 : List Addr} {h h1 h2 : Heap} (a : Rest l1 h h1) (b : Rest l2 h1 h2) : Rest (l1 ++ l2) h h2 :=
  fun c o hc q => b c o (fun r => hc (List.mem_append_right _ r)) (a c o (fun r => hc (List.mem_append_left _ r)) q)
theorem Rest.more {l1 l2 : List Addr} {h h' : Heap} (a : Rest l1 h h') (b : ∀ c ∈ l1, c ∈ l2) : Rest l2 h h' :=
  fun c o hc q => a c o (fun r => hc (b c r)) q

theorem src_zip (S : ZipSep2 z TI TO i1 i2 f1 f2) (D1 : Draws P w A.in1 i1 f1 n1 R1 S1) (D2 : Draws P w A.in1 i2 f2 n2 R2 S2)
    (off : ∀ b, b ∈ z :: TI :: TO :: f1 ++ f2 → d ≠ b) :
    PairSrc P w A z d [z, TO, i1, i2] (min n1 n2) (fun i k v => R1 i k ∧ R2 i v) (ZipAt z TI TO i1 i2 d S1 S2) := by
  have dz : d ≠ z := off z (by simp)
  have dI : d ≠ TI := off TI (by simp)
  have dO : d ≠ TO := off TO (by simp)
  have d1 : ∀ b ∈ f1, d ≠ b := fun b hb => off b (by simp [hb])
  have d2 : ∀ b ∈ f2, d ≠ b := fun b hb => off b (by simp [hb])
  have go1 : ∀ {i : Nat} {g g' : Heap} {l : List Addr}, S1 i g → Rest l g g' → (∀ b ∈ l, b ∉ f1) → S1 i g' :=
    fun st r a => D1.frame _ _ _ st fun b hb o q => r b o (fun m => a b m hb) q
  have go2 : ∀ {i : Nat} {g g' : Heap} {l : List Addr}, S2 i g → Rest l g g' → (∀ b ∈ l, b ∉ f2) → S2 i g' :=
    fun st r a => D2.frame _ _ _ st fun b hb o q => r b o (fun m => a b m hb) q
  refine ⟨?_, ?_, ?_, ?_⟩
  · intro m
    rcases List.mem_cons.mp m with r | m
    · exact dz r
    rcases List.mem_cons.mp m with r | m
    · exact dO r
    rcases List.mem_cons.mp m with r | m
    · exact d1 _ S.mem1 r
    · exact d2 _ S.mem2 (List.mem_singleton.mp m)
  · rintro i g g' ⟨hI, a, b, c⟩ k
    have rd : Rest [d] g g' := fun x o hx q => k x o (fun r => hx (List.mem_singleton.mpr r)) q
    refine ⟨k _ _ dI.symm hI, go1 a rd fun x hx m => d1 x m (List.mem_singleton.mp hx).symm,
      go2 b rd fun x hx m => d2 x m (List.mem_singleton.mp hx).symm, ?_⟩
    rcases c with ⟨c, u, v, e⟩ | ⟨T, f, o, c, e, n⟩
    · exact .inl ⟨k _ _ dz.symm c, u, v, k _ _ dO.symm e⟩
    · exact .inr ⟨T, f, o, k _ _ dz.symm c, k _ _ (n d (by simp)) e, n⟩
  · rintro i s Q E hi ⟨hI, a, b, c⟩ ld hQ
    have l1 : i < n1 := Nat.lt_of_lt_of_le hi (Nat.min_le_left ..)
    have l2 : i < n2 := Nat.lt_of_lt_of_le hi (Nat.min_le_right ..)
    have old : ∀ {x o}, s.heap.get? x = some o → s.heap.objs.size ≠ x := fun q => Nat.ne_of_gt (Heap.lt_size q)
    obtain ⟨o1, e1⟩ := D1.live _ _ a
    obtain ⟨o2, e2⟩ := D2.live _ _ b
    rcases c with ⟨c, u, v, e⟩ | ⟨T, f, o, c, e, n⟩
    · refine wpAny_pyNext_zipD2_item S D1 D2 c hI e a b l1 l2 fun x y g tk hx hy gz gO ga gb gp _ k => ?_
      have r : Rest [z, TO, i1, i2] s.heap g := fun b o hb q => k b o (fun x => hb (by simp [x])) (fun x => hb (by simp [x]))
        (fun x => hb (by simp [x])) (fun x => hb (by simp [x])) q
      refine hQ _ _ _ g tk ⟨hx, hy⟩ (.inl ⟨_, gp, rfl, _, rfl⟩) ⟨k _ _ S.TIz S.TITO S.TIi1 S.TIi2 hI, ga, gb, .inr ⟨_, false, _, gz, gp, ?_⟩⟩ r
      simp only [List.forall_mem_cons]
      exact ⟨old c, old e1, old e2, Nat.ne_of_gt ld, fun _ q => nomatch q⟩
    · have nz : T ≠ z := n z (by simp)
      have n1' : T ≠ i1 := n i1 (by simp)
      have n2' : T ≠ i2 := n i2 (by simp)
      refine next_zip ⟨_, c, rfl⟩ (zip_out c e hI fun g gz gs => ?_)
      have r0 := Rest.of gs
      refine D1.item i _ _ _ l1 (go1 a r0 fun x hx => by rw [List.mem_singleton.mp hx]; exact S.zf1) fun x g1 t1 hx a1 s1 => ?_
      have r1 := Rest.of (show Heap.SameBut i1 g g1 from s1)
      have b1 := go2 (go2 b r0 fun x hx => by rw [List.mem_singleton.mp hx]; exact S.zf2) r1 fun x hx => by rw [List.mem_singleton.mp hx]; exact S.sep1_2
      refine D2.item i _ _ _ l2 b1 fun y g2 t2 hy b2 s2 => ?_
      have r2 := Rest.of (show Heap.SameBut i2 g1 g2 from s2)
      have rp : Rest [] g2 (g2.push { cls := .type "tuple", data := .seq #[x, y] }) := Rest.push
      have all : Rest [z, i1, i2] s.heap (g2.push { cls := .type "tuple", data := .seq #[x, y] }) := ((r0.seq r1).seq r2).seq rp
      have keep : ∀ b o, b ≠ z → b ≠ i1 → b ≠ i2 → s.heap.get? b = some o → (g2.push { cls := .type "tuple", data := .seq #[x, y] }).get? b = some o :=
        fun b o h1 h2 h3 q => all b o (by simp [h1, h2, h3]) q
      have gz2 : IsZipHeld g2 z TI TO T true := r2 _ _ (by simp [S.zi2]) (r1 _ _ (by simp [S.zi1]) gz)
      refine ⟨_, rfl, hQ _ _ _ _ t2 ⟨hx, hy⟩ (.inl ⟨_, Heap.get?_push_size _ rfl, rfl, _, rfl⟩) ⟨keep _ _ S.TIz S.TIi1 S.TIi2 hI,
        go1 (go1 a1 r2 fun x hx => by rw [List.mem_singleton.mp hx]; exact S.sep2_1) rp (fun _ h => nomatch h), go2 b2 rp (fun _ h => nomatch h),
        .inr ⟨T, true, o, rp _ _ (by simp) gz2, keep _ _ nz n1' n2' e, n⟩⟩ (all.more fun c hc => ?_)⟩
      revert c
      simp only [List.nil_append, List.cons_append, List.forall_mem_cons]
      exact ⟨by simp, by simp, by simp, fun _ q => nomatch q⟩
  · rintro s Q E ⟨hI, a, b, c⟩ hQ
    have m1 := Nat.min_le_left n1 n2
    have m2 := Nat.min_le_right n1 n2
    have hm : min n1 n2 = n1 ∨ min n1 n2 = n2 := by omega
    rcases c with ⟨c, u, v, e⟩ | ⟨T, f, o, c, e, n⟩
    · refine wpAny_pyNext_zipD2_end S D1 D2 c hI e a b m1 m2 hm fun g tk k => hQ g tk fun b o hb q => ?_
      exact k b o (fun x => hb (by simp [x])) (fun x => hb (by simp [x])) (fun x => hb (by simp [x])) (fun x => hb (by simp [x])) q
    · refine next_zip ⟨_, c, rfl⟩ (zip_out c e hI fun g gz gs => ?_)
      have r0 := Rest.of gs
      have a0 := go1 a r0 fun x hx => by rw [List.mem_singleton.mp hx]; exact S.zf1
      have b0 := go2 b r0 fun x hx => by rw [List.mem_singleton.mp hx]; exact S.zf2
      by_cases h1 : min n1 n2 < n1
      · refine D1.item _ _ _ _ h1 a0 fun x g1 t1 hx a1 s1 => ?_
        have r1 := Rest.of (show Heap.SameBut i1 g g1 from s1)
        have b1 := go2 b0 r1 fun x hx => by rw [List.mem_singleton.mp hx]; exact S.sep1_2
        have e2 : min n1 n2 = n2 := by omega
        rw [e2] at b1
        refine D2.done _ _ _ b1 fun g2 x q hx => ?_
        obtain ⟨o', ho, hc⟩ := hx
        have r2 : Rest [i2] g1 g2 := fun b o hb y => q b o (fun r => hb (List.mem_singleton.mpr r)) y
        refine ⟨x, o', rfl, ho, hc, hQ g2 t1 (((r0.seq r1).seq r2).more fun c hc => ?_)⟩
        revert c
        simp only [List.nil_append, List.cons_append, List.forall_mem_cons]
        exact ⟨by simp, by simp, by simp, fun _ q => nomatch q⟩
      · have e1 : min n1 n2 = n1 := by omega
        rw [e1] at a0
        refine D1.done _ _ _ a0 fun g2 x q hx => ?_
        obtain ⟨o', ho, hc⟩ := hx
        have r2 : Rest [i1] g g2 := fun b o hb y => q b o (fun r => hb (List.mem_singleton.mpr r)) y
        refine ⟨x, o', rfl, ho, hc, hQ g2 s.toks ((r0.seq r2).more fun c hc => ?_)⟩
        revert c
        simp only [List.nil_append, List.cons_append, List.forall_mem_cons]
        exact ⟨by simp, by simp, fun _ q => nomatch q⟩
end

/-- a zip of two texts, not asked yet -/
structure ZipNew (z TI TO i1 i2 : Addr) (x y : Str) (t u : Tok) (h : Heap) : Prop where
  zip : IsZip h z TI TO .none
  its : IsTupOf2 h TI (.ref i1) (.ref i2)
  out : ∃ a b, IsTupOf2 h TO a b
  one : h.IsStrIter i1 (strIterType x) x t 0
  two : h.IsStrIter i2 (strIterType y) y u 0

/-- the pairs of two texts' signs -/
theorem argZ {prog : Program} {w : World} (z TI TO i1 i2 : Addr) (x y : Str) (t u : Tok) (S : ZipSep2 z TI TO i1 i2 [i1] [i2]) :
    PairArg prog w "zip" z [z, TI, TO, i1, i2] [z, TO, i1, i2] (min x.cps.size y.cps.size)
      (fun i k v => (∃ c r, x.cps[i]? = some c ∧ k = .str ⟨#[c]⟩ r) ∧ (∃ c r, y.cps[i]? = some c ∧ v = .str ⟨#[c]⟩ r))
      (ZipNew z TI TO i1 i2 x y t u) := by
  refine ⟨fun s ok => ⟨_, ok.zip, rfl⟩, by decide, fun h h' ok k => ?_, fun h ok b hb => ?_, fun b hb => ?_,
    fun A s Q E hA ok h => getAttrOr_miss_zip ok.zip rfl rfl rfl zip_no_keys (by decide +kernel) hA h, fun A s d Q E hA ok hd hdf h => ?_⟩
  · obtain ⟨a, b, ho⟩ := ok.out
    obtain ⟨o1, e1, r1⟩ := ok.one
    obtain ⟨o2, e2, r2⟩ := ok.two
    exact ⟨k _ _ ok.zip, k _ _ ok.its, ⟨a, b, k _ _ ho⟩, ⟨o1, k _ _ e1, r1⟩, ⟨o2, k _ _ e2, r2⟩⟩
  · obtain ⟨_, _, ho⟩ := ok.out
    obtain ⟨o1, e1, _⟩ := ok.one
    obtain ⟨o2, e2, _⟩ := ok.two
    have all : ∀ c ∈ [z, TI, TO, i1, i2], ∃ o, h.get? c = some o := by
      simp only [List.forall_mem_cons]
      exact ⟨⟨_, ok.zip⟩, ⟨_, ok.its⟩, ⟨_, ho⟩, ⟨_, e1⟩, ⟨_, e2⟩, fun _ q => nomatch q⟩
    exact all b hb
  · have all : ∀ c ∈ [z, TO, i1, i2], c ∈ [z, TI, TO, i1, i2] := by
      simp only [List.forall_mem_cons]
      exact ⟨by simp, by simp, by simp, by simp, fun _ q => nomatch q⟩
    exact all b hb
  · have D1 := Draws.text (prog := prog) (w := w) (A := A.in1) hA i1 x t
    have D2 := Draws.text (prog := prog) (w := w) (A := A.in1) hA i2 y u
    have src := src_zip (d := d) S D1 D2 fun b hb r => hdf (by rw [r]; simpa using hb)
    exact wpAny_pyIter_zip ok.zip (h z [z, TO, i1, i2] _ s.heap s.toks src ⟨ok.its, ok.one, ok.two, .inl ⟨ok.zip, ok.out⟩⟩ (fun _ _ e => e) fun b hb => .inl hb)
end Own

namespace Own
open PySem PySem.Spec PyProof.Rows L2
/-- the pairs of two texts -/
def zipS (x y : Str) : List (Key × V) :=
  (x.cps.toList.zip y.cps.toList).map fun p => (Sum.inr ⟨#[p.1]⟩, V.str ⟨#[p.2]⟩)

theorem zipS_len (x y : Str) : (zipS x y).length = min x.cps.size y.cps.size := by
  unfold zipS
  rw [List.length_map, List.length_zip]
  rfl
theorem zipS_at {x y : Str} {i a b : Nat} (hx : x.cps[i]? = some a) (hy : y.cps[i]? = some b) :
    (zipS x y)[i]? = some (Sum.inr ⟨#[a]⟩, V.str ⟨#[b]⟩) := by
  unfold zipS
  rw [← Array.getElem?_toList] at hx hy
  rw [List.getElem?_map, List.getElem?_zip_eq_some (z := (a, b)) |>.mpr ⟨hx, hy⟩]
  rfl
theorem mergeK_snoc (kvs more : List (Key × V)) {i : Nat} {k : Key} {v : V}
    (h : more[i]? = some (k, v)) :
    mergeK kvs (more.take (i + 1)) = putK (mergeK kvs (more.take i)) k v := by
  unfold mergeK
  rw [List.take_add_one, h]
  simp

theorem call_dz {prog : Program} {w : World} {A : Around} {E : Value → Shared → Prop}
    {s : Shared} {z TI TO i1 i2 : Addr} {x y : Str} {t u : Tok}
    {Q : Value → Shared → Prop} (S : ZipSep2 z TI TO i1 i2 [i1] [i2]) (hh : A.handled = none)
    (hz : IsZip s.heap z TI TO .none) (hTI : IsTupOf2 s.heap TI (.ref i1) (.ref i2))
    (hTO : ∃ a b, IsTupOf2 s.heap TO a b) (h1 : s.heap.IsStrIter i1 (strIterType x) x t 0)
    (h2 : s.heap.IsStrIter i2 (strIterType y) y u 0) (hsz : min x.cps.size y.cps.size ≤ sizeLine)
    (h : ∀ h' tk vs, KV (mergeK [] (zipS x y)) vs →
      h'.DictOf (mixKind prog w) s.heap.objs.size vs →
      (∀ b o, b ≠ z → b ≠ TO → b ≠ i1 → b ≠ i2 → s.heap.get? b = some o → h'.get? b = some o) →
      Q (.ref s.heap.objs.size) { s with heap := h', toks := tk }) :
    wpAny (model prog w) A (call (.type "dict") [.ref z]) Q E s := by
  refine call_dict_arg (argZ z TI TO i1 i2 x y t u S) ⟨hz, hTI, hTO, h1, h2⟩
    fun s1 es hdf ok1 => ?_
  subst es
  refine updateFrom_arg (A := A.in1) (Tab := fun i h => ∃ vs,
      KV (mergeK [] ((zipS x y).take i)) vs ∧ h.DictOf (mixKind prog w) s.heap.objs.size vs)
    (argZ z TI TO i1 i2 x y t u S) .none hh ok1 hdf ?_ (fun _ _ ⟨_, _, tb⟩ => tb.lt_size)
    (fun i g g' wr' hd _ ⟨vs, r, tb⟩ hk => ⟨vs, r, tb.at' fun o e => hk _ o hd e⟩) ?_ ?_
  · exact ⟨[], .nil, Heap.DictOf.new s.heap⟩
  · intro i key v s' Q' E' hi hrel tb _ hQ
    obtain ⟨⟨c, r, hc, rfl⟩, ⟨c', r', hc', rfl⟩⟩ := hrel
    obtain ⟨vs, rel, tb⟩ := tb
    have ez := zipS_at hc hc'
    have hl : vs.length < sizeLine := by
      have l1 := rel.length
      have l2 := length_mergeK ((zipS x y).take i) []
      rw [List.length_take, List.length_nil] at l2
      omega
    refine wpAny_dictSet_pairs (k := (Sum.inr ⟨#[c]⟩ : Key)) (hsz := by omega) (mixKind_str prog w _ _) tb fun h' hm' hs => ?_
    refine hQ h' _ ⟨_, ?_, hm'⟩ hs
    rw [mergeK_snoc _ _ ez]
    exact rel.put _ ⟨_, rfl⟩
  · intro h' tk tb hk
    obtain ⟨vs, rel, tb⟩ := tb
    rw [List.take_of_length_le (by rw [zipS_len]; exact Nat.le_refl _)] at rel
    refine ⟨rfl, h h' tk vs rel tb fun b o a1 a2 a3 a4 e => hk b o (Nat.ne_of_lt (Heap.lt_size e)) ?_
      (Heap.get?_push_of_some _ e)⟩
    intro hm
    simp only [List.mem_cons, List.not_mem_nil, or_false] at hm
    rcases hm with q | q | q | q
    · exact a1 q
    · exact a2 q
    · exact a3 q
    · exact a4 q

def tDZ (t : TA) : TE := fun σ H Q => t σ H fun vs H1 => ∃ x y : Str, vs = [.str x, .str y] ∧
  min x.cps.size y.cps.size ≤ sizeLine ∧
  ∀ d, H1 d = none → Q (.ref d) (upd H1 d (.dK (mergeK [] (zipS x y))))

theorem pe_dz {X : Cx} {a b : Expr} {t : TA} {p p2 q pos : Pos} (hg : Gl X "dict")
    (hm : X.mg "dict" = none) (hg2 : Gl X "zip") (hm2 : X.mg "zip" = none) (ha : PA X [a, b] t)
    (hc : X.calm = true := by rfl)
    (n1 : starEach [a, b] X.env = (false, eval a X.env) :: starEach [b] X.env := by rfl)
    (n2 : starEach [b] X.env = (false, eval b X.env) :: starEach [] X.env := by rfl) :
    PE X (.Call (.Name "dict" p) [.Call (.Name "zip" p2) [a, b] [] q] [] pos) (tDZ t) := by
  refine ⟨fun pins s σ H Q I h => ?_⟩
  refine Call_ (ld_blt I hg hm (u := .type "dict") (by decide +kernel) ?_)
  refine PyProof.Rows.callWith_type1 (PyProof.Rows.args_cons ?_ rfl) rfl rfl
  refine Call_ (ld_blt I hg2 hm2 (u := .type "zip") (by decide +kernel) ?_)
  refine PyProof.Rows.callWith_type1 (thn (ha.run q pins s σ H _ I h)
    fun us s1 ⟨vs, H1, I1, r1, q1⟩ => ?_) n1 (by rw [n2]; rfl)
  obtain ⟨x, y, ex, hsz, q1⟩ := q1
  subst ex
  obtain ⟨u1, u2, eu, rx, ry⟩ := vals2 r1
  subst eu
  obtain ⟨tx, rfl⟩ := rx
  obtain ⟨ty, rfl⟩ := ry
  refine zip_begins2 (begins_text x tx) (begins_text y ty) trivial trivial
    fun h' hz hTI hTO g1 g2 hs hk => ?_
  refine PyProof.Rows.args_nil ?_
  have S := zip_sep2 (N := s1.heap.objs.size) (fp1 := []) (fp2 := []) (fun b hb => nomatch hb)
    (fun b hb => nomatch hb)
  refine call_dz (s := { s1 with heap := h' }) (t := tx) (u := ty) S (I1.ok.hd hc) hz hTI
    ⟨_, _, hTO⟩ ⟨_, g1, rfl, rfl⟩ ⟨_, g2, rfl, rfl⟩ hsz fun h2 tk vs rel hd hk2 => ?_
  have keep : ∀ b o, s1.heap.get? b = some o → h2.get? b = some o := fun b o e => by
    have lb : b < s1.heap.objs.size := Heap.lt_size e
    have k : ∀ j : Nat, b ≠ s1.heap.objs.size + j := fun j e => by
      rw [e] at lb
      exact absurd lb (Nat.not_lt_of_le (Nat.le_add_right _ _))
    exact hk2 b o (k 4) (k 3) (k 0) (k 1) (hk b o e)
  have big : s1.heap.objs.size ≤ h'.objs.size := by rw [hs]; exact Nat.le_add_right _ _
  have hmod : (h'.objs.size == sysModules) = false :=
    beq_eq_false_iff_ne.mpr (Nat.ne_of_gt (Nat.lt_of_lt_of_le I1.big big))
  have hlen : (mergeK [] (zipS x y)).length ≤ sizeLine := by
    have l2 := length_mergeK (zipS x y) []
    rw [List.length_nil, zipS_len] at l2
    omega
  exact ⟨.ref h'.objs.size, upd H1 h'.objs.size (.dK (mergeK [] (zipS x y))),
    I1.laid (t' := tk) keep big (show ObjOk X.prog X.w _ _ _ (.dK (mergeK [] (zipS x y))) from
      ⟨hlen, hmod, vs, rel, hd⟩), rfl, q1 _ (I1.hok.fresh big)⟩

/-- what the dict says of the i-th sign, the first text without a sign twice -/
theorem valV_merge_out (k : Key) : ∀ (more kvs : List (Key × V)), (∀ p ∈ more, p.1 ≠ k) →
    valV (mergeK kvs more) k = valV kvs k
  | [], kvs, _ => rfl
  | p :: r, kvs, h => by
    show valV (mergeK (putK kvs p.1 p.2) r) k = valV kvs k
    rw [valV_merge_out k r _ fun q hq => h q (List.mem_cons_of_mem _ hq), valV_put,
      if_neg fun e => h p (List.mem_cons_self ..) e.symm]
theorem valV_merge {k : Key} {v : V} : ∀ (more kvs : List (Key × V)) (i : Nat),
    (more.map (·.1)).Nodup → more[i]? = some (k, v) → valV (mergeK kvs more) k = some v
  | [], _, _, _, h => by simp at h
  | p :: r, kvs, 0, nd, h => by
    have e : p = (k, v) := Option.some.inj h
    subst e
    show valV (mergeK (putK kvs k v) r) k = some v
    rw [List.map_cons, List.nodup_cons] at nd
    rw [valV_merge_out k r _ fun q hq e => nd.1 (e ▸ List.mem_map_of_mem (f := (·.1)) hq),
      valV_put, if_pos rfl]
  | p :: r, kvs, i + 1, nd, h => by
    rw [List.map_cons, List.nodup_cons] at nd
    exact valV_merge r _ i nd.2 h
end Own

namespace Own
open PySem PySem.Spec PyProof.Rows L2 SX
/-! ### texts -/
theorem idx_of {c : Nat} : ∀ (a : List Nat) (i : Nat), a[i]? = some c → (∀ k, k < i → a[k]? ≠ some c) → a.idxOf c = i
  | [], i, h, _ => by simp at h
  | x :: r, 0, h, _ => by
    have e : x = c := Option.some.inj h
    rw [e, List.idxOf_cons_self]
  | x :: r, i + 1, h, hk => by
    have ne : x ≠ c := fun e => hk 0 (Nat.succ_pos _) (by rw [e]; rfl)
    have ih := idx_of r i h fun k lt e => hk (k + 1) (Nat.succ_lt_succ lt) e
    have nb : (x == c) = false := beq_eq_false_iff_ne.mpr ne
    rw [List.idxOf_cons, nb, ih]
    rfl
theorem occ1 {a : List Nat} {c : Nat} (h : c ∈ a) :
    ∃ rest, Builtin.Str.occurrences (S a) (S [c]) 0 (S a).length 1 = a.idxOf c :: rest := by
  obtain ⟨j, hj⟩ := List.mem_iff_getElem?.mp h
  rcases StrLaws.occ_head (S a) (S [c]) 1 (Nat.le_refl _) with ⟨_, hn⟩ | ⟨i, r, e, hi, hk⟩
  · exact absurd ((StrLaws.subAt_one (S a) c j).mpr hj) (hn j)
  · have h1 : a[i]? = some c := (StrLaws.subAt_one (S a) c i).mp hi
    have e2 := idx_of a i h1 fun k lt q => hk k lt ((StrLaws.subAt_one (S a) c k).mpr q)
    exact ⟨r, by rw [e, e2]⟩
theorem join1 : ∀ cs : List Nat, TL.joinL [] (cs.map fun c => [c]) = cs
  | [] => rfl
  | [_] => rfl
  | x :: y :: r => by
    show [x] ++ ([] ++ TL.joinL [] ((y :: r).map fun c => [c])) = x :: y :: r
    rw [join1 (y :: r)]
    rfl
theorem empty_S : Str.ofString "" = S [] := rfl
theorem joinC (cs : List Nat) : Txt.join (Str.ofString "") (cs.map fun c => S [c]) = S cs := by
  rw [empty_S]
  have e := join_S [] (cs.map fun c => [c])
  rw [List.map_map, join1] at e
  exact e
theorem joinT (ts : List (List Nat)) : Txt.join (Str.ofString "") (ts.map S) = S ts.flatten := by
  rw [empty_S, join_S]
  congr 2
  induction ts with
  | nil => rfl
  | cons x r ih =>
    cases r with
    | nil => simp [TL.joinL]
    | cons y r =>
      show x ++ ([] ++ TL.joinL [] (y :: r)) = _
      rw [ih]
      rfl
theorem one_len (cs : List Nat) : ((cs.map fun c => S [c]).map (·.length)).sum = cs.length := by
  induction cs with
  | nil => rfl
  | cons c r ih =>
    rw [List.map_cons, List.map_cons, List.sum_cons, ih, List.length_cons, S_len]
    show 1 + r.length = _
    omega
theorem az : Str.ofString "abcdefghijklmnopqrstuvwxyz" = S (List.range' 97 26) := by decide +kernel

/-! ### turns -/
theorem get_idx {gs : List Nat} {c : Nat} (h : c ∈ gs) : gs[gs.idxOf c]? = some c := by
  rw [List.getElem?_eq_getElem (List.idxOf_lt_length_of_mem h), List.getElem_idxOf]
def tau (gs p : List Nat) (c : Nat) : Nat := p.getD (gs.idxOf c) 0
theorem tau_at {gs p : List Nat} {c : Nat} (h : c ∈ gs) (hl : p.length = gs.length) : p[gs.idxOf c]? = some (tau gs p c) := by
  have lt : gs.idxOf c < p.length := by rw [hl]; exact List.idxOf_lt_length_of_mem h
  unfold tau
  rw [List.getD_eq_getElem?_getD, List.getElem?_eq_getElem lt]
  rfl
theorem tau_mem {gs p : List Nat} {c : Nat} (h : c ∈ gs) (hl : p.length = gs.length) : tau gs p c ∈ p :=
  List.mem_of_getElem? (tau_at h hl)
theorem tau_self {gs : List Nat} {c : Nat} (h : c ∈ gs) : tau gs gs c = c := by
  have e := tau_at h (rfl : gs.length = gs.length)
  have e2 : gs[gs.idxOf c]? = some c := get_idx h
  rw [e] at e2
  exact Option.some.inj e2
theorem tau_map {gs m : List Nat} (f : Nat → Nat) {c : Nat} (h : c ∈ gs) (hl : m.length = gs.length) :
    tau gs (m.map f) c = f (tau gs m c) := by
  have e := tau_at (p := m.map f) h (by rw [List.length_map, hl])
  rw [List.getElem?_map, tau_at h hl] at e
  exact (Option.some.inj e).symm
theorem idx_get {y : List Nat} (nd : y.Nodup) {i c : Nat} (h : y[i]? = some c) : y.idxOf c = i := by
  refine idx_of y i h fun k lt e => ?_
  obtain ⟨h1, e1⟩ := List.getElem?_eq_some_iff.mp h
  obtain ⟨h2, e2⟩ := List.getElem?_eq_some_iff.mp e
  have : k = i := (List.getElem_inj nd).mp (e2.trans e1.symm)
  omega
/-! ### how often -/
def it (gs t : List Nat) : Nat → List Nat
  | 0 => t
  | j + 1 => (it gs t j).map (tau gs t)
def lists (n : Nat) : Nat → List (List Nat)
  | 0 => [[]]
  | k + 1 => (List.range n).flatMap fun a => (lists n k).map fun l => a :: l
/-! ### letters -/
def lets (f s n : Nat) : List Nat := (List.range n).map fun k => 97 + (f + s * k) % 26
theorem lets_nd : ∀ f ∈ List.range 26, ∀ s ∈ [1, 3, 5, 25, 7], ∀ n ∈ [2, 3, 4], (lets f s n).Nodup := by
  decide +kernel
structure Good (gs : List Nat) : Prop where
  lo : 2 ≤ gs.length
  hi : gs.length ≤ 4
  nd : gs.Nodup
  az : ∀ c ∈ gs, 97 ≤ c ∧ c ≤ 122
theorem lets_good {f s n : Nat} (hf : f < 26) (hs : s ∈ [1, 3, 5, 25, 7]) (hn : n ∈ [2, 3, 4]) : Good (lets f s n) := by
  have hl : (lets f s n).length = n := by unfold lets; rw [List.length_map, List.length_range]
  have h2 : 2 ≤ n ∧ n ≤ 4 := by
    simp only [List.mem_cons, List.not_mem_nil, or_false] at hn
    omega
  refine ⟨by omega, by omega, lets_nd f (List.mem_range.mpr hf) s hs n hn, fun c hc => ?_⟩
  obtain ⟨k, _, rfl⟩ := List.mem_map.mp hc
  omega

/-! ### the dict of two texts -/
theorem dz_get {gs t : List Nat} {c : Nat} (nd : gs.Nodup) (hl : t.length = gs.length) (h : c ∈ gs) :
    valV (mergeK [] (zipS (S gs) (S t))) (Sum.inr (S [c])) = some (.str (S [tau gs t c])) := by
  refine valV_merge _ _ (gs.idxOf c) ?_ ?_
  · have e : (zipS (S gs) (S t)).map (·.1) = gs.map fun c => (Sum.inr (S [c]) : Key) := by
      unfold zipS
      rw [List.map_map]
      show (List.zip gs t).map (fun p => (Sum.inr (S [p.1]) : Key)) = _
      have : (fun p : Nat × Nat => (Sum.inr (S [p.1]) : Key)) = (fun c => (Sum.inr (S [c]) : Key)) ∘ Prod.fst := rfl
      rw [this, ← List.map_map, List.map_fst_zip (by omega)]
    rw [e]
    refine List.pairwise_map.mpr (nd.imp fun hne q => hne ?_)
    have q1 := Sum.inr.inj q
    have q2 := S_inj q1
    exact List.head_eq_of_cons_eq q2
  · refine zipS_at (x := S gs) (y := S t) (i := gs.idxOf c) (a := c) (b := tau gs t c) ?_ ?_
    · show (gs.toArray)[gs.idxOf c]? = some c
      rw [List.getElem?_toArray]
      exact get_idx h
    · show (t.toArray)[gs.idxOf c]? = some _
      rw [List.getElem?_toArray]
      exact tau_at h hl
end Own

namespace Own
open PySem PySem.Spec PyProof.Rows L2 SX RZ
/-! ### the drawer -/
def RngV (H : Hp) (r l : Addr) (ns : List Int) (i b s c : Int) : Prop :=
  0 ≤ i ∧ H r = some (.lst [.ref l, .int i, .int b, .int s, .int c]) ∧ H l = some (.lst (ns.map V.int))
def RngL (H : Hp) (r l : Addr) : Prop := ∃ ns i b s c, RngV H r l ns i b s c
def Rng (H : Hp) (r : Addr) : Prop := ∃ l, RngL H r l
/-- all but r as before, and at r a drawer over the same cells -/
def Go (r : Addr) (H H' : Hp) : Prop :=
  (∀ b o, b ≠ r → H b = some o → H' b = some o) ∧ ∃ l, RngL H r l ∧ RngL H' r l

theorem ints_ne {a : List Int} {l : Addr} {xs : List V} : HO.lst (a.map V.int) ≠ HO.lst (V.ref l :: xs) := by
  intro h
  injection h with h
  cases a with
  | nil => cases h
  | cons x r =>
    injection h with h1 h2
    cases h1
theorem RngV.ne {H : Hp} {r l : Addr} {ns : List Int} {i b s c : Int} (h : RngV H r l ns i b s c) : l ≠ r :=
  ne_of h.2.2 h.2.1 ints_ne
theorem RngV.put {H : Hp} {r l : Addr} {ns : List Int} {i b s c i' b' s' c' : Int}
    (h : RngV H r l ns i b s c) (hi : 0 ≤ i') :
    RngV (upd H r (.lst [.ref l, .int i', .int b', .int s', .int c'])) r l ns i' b' s' c' :=
  ⟨hi, upd_same, by rw [upd_ne h.ne]; exact h.2.2⟩
theorem RngL.inj {r l l' : Addr} {H : Hp} (a : RngL H r l) (b : RngL H r l') : l = l' := by
  obtain ⟨ns, i, b', s, c, R⟩ := a
  obtain ⟨ns', i', b'', s', c', R'⟩ := b
  have e := R.2.1.symm.trans R'.2.1
  injection e with e
  injection e with e
  injection e with e1 e2
  injection e1
theorem RngL.same {r l : Addr} {H H' : Hp} (h : RngL H r l) (s : Same H H') : RngL H' r l := by
  obtain ⟨ns, i, b, z, c, R⟩ := h
  exact ⟨ns, i, b, z, c, R.1, s _ _ R.2.1, s _ _ R.2.2⟩
theorem Rng.same {r : Addr} {H H' : Hp} (h : Rng H r) (s : Same H H') : Rng H' r := let ⟨l, h⟩ := h; ⟨l, h.same s⟩
theorem Go.rng {r : Addr} {H H' : Hp} (g : Go r H H') : Rng H' r := let ⟨l, _, h⟩ := g.2; ⟨l, h⟩
theorem Go.rng0 {r : Addr} {H H' : Hp} (g : Go r H H') : Rng H r := let ⟨l, h, _⟩ := g.2; ⟨l, h⟩
theorem Go.trans {r : Addr} {H H1 H2 : Hp} (a : Go r H H1) (b : Go r H1 H2) : Go r H H2 := by
  obtain ⟨a1, l, a2, a3⟩ := a
  obtain ⟨b1, l', b2, b3⟩ := b
  have e := a3.inj b2
  subst e
  exact ⟨fun x o nx e => b1 x o nx (a1 x o nx e), l, a2, b3⟩
theorem Go.refl {r : Addr} {H : Hp} (h : Rng H r) : Go r H H := let ⟨l, h⟩ := h; ⟨fun _ _ _ e => e, l, h, h⟩
theorem Go.of {r : Addr} {H H' : Hp} (h : Rng H r) (s : Same H H') : Go r H H' :=
  let ⟨l, h⟩ := h; ⟨fun _ _ _ e => s _ _ e, l, h, h.same s⟩
theorem Go.same {r : Addr} {H H1 H2 : Hp} (a : Go r H H1) (s : Same H1 H2) : Go r H H2 := a.trans (Go.of a.rng s)
theorem Go.after {r : Addr} {H H1 H2 : Hp} (h : Rng H r) (s : Same H H1) (a : Go r H1 H2) : Go r H H2 := (Go.of h s).trans a
theorem RngL.ex {r l : Addr} {H : Hp} (h : RngL H r l) : (∃ xs, H r = some (.lst xs)) ∧ ∃ xs, H l = some (.lst xs) := by
  obtain ⟨ns, i, b, s, c, R⟩ := h
  exact ⟨⟨_, R.2.1⟩, ⟨_, R.2.2⟩⟩
theorem Rng.ex {r : Addr} {H : Hp} (h : Rng H r) : ∃ xs, H r = some (.lst xs) := let ⟨_, h⟩ := h; h.ex.1
/-- a list made on the way, new at H, is written -/
theorem Go.put {r D : Addr} {H H' : Hp} {o : HO} (g : Go r H H') (nD : H D = none) : Go r H (upd H' D o) := by
  obtain ⟨g1, l, h, h'⟩ := g
  obtain ⟨⟨x1, e1⟩, ⟨x2, e2⟩⟩ := h.ex
  have n1 : r ≠ D := ne_of_none e1 nD
  have n2 : l ≠ D := ne_of_none e2 nD
  refine ⟨fun b u nb e => ?_, l, h, ?_⟩
  · rw [upd_ne (ne_of_none e nD)]
    exact g1 b u nb e
  · obtain ⟨ns, i, b, z, c, R⟩ := h'
    exact ⟨ns, i, b, z, c, R.1, by rw [upd_ne n1]; exact R.2.1, by rw [upd_ne n2]; exact R.2.2⟩
theorem same_new {H : Hp} {p : Addr} {o : HO} (h : H p = none) : Same H (upd H p o) := fun b x e => by
  rw [upd_ne (ne_of_none e h)]
  exact e
theorem Go.seq {K : PySem.W.Frag} {r a : Addr} {H H' : Hp} {xs : List V} (g : Go r H H') (ne : a ≠ r) (h : SqL K H a xs) : SqL K H' a xs := by
  rcases h with (h | ⟨o, h⟩) | h
  · exact .inl (.inl (g.1 _ _ ne h))
  · exact .inl (.inr ⟨o, g.1 _ _ ne h⟩)
  · exact .inr h
theorem small {n : Nat} (h : n ≤ 1000) : n ≤ sizeLine := Nat.le_of_lt (small1000 h)
/-! ### equal data -/
def Flat : V → Prop
  | .non => True
  | .bl _ => True
  | .int _ => True
  | .str _ => True
  | _ => False
/-- two values that are the same data, less than n deep -/
def Eqd (K : PySem.W.Frag) (H : Hp) : Nat → V → V → Prop
  | 0, _, _ => False
  | n + 1, x, y => (x = y ∧ Flat x) ∨ ∃ a b xs ys, x = .ref a ∧ y = .ref b ∧
      ((SqL K H a xs ∧ SqL K H b ys) ∨ (SqT K H a xs ∧ SqT K H b ys)) ∧ xs.length ≤ 1000 ∧ xs.length = ys.length ∧
      ∀ (i : Nat) u v, xs[i]? = some u → ys[i]? = some v → Eqd K H n u v
theorem same_t {K : PySem.W.Frag} {H H' : Hp} {a : Addr} {xs : List V} (e : Same H H') (h : SqT K H a xs) : SqT K H' a xs := by
  rcases h with (h | ⟨o, h⟩) | h
  · exact .inl (.inl (e _ _ h))
  · exact .inl (.inr ⟨o, e _ _ h⟩)
  · exact .inr h
theorem Eqd.same {K : PySem.W.Frag} {H H' : Hp} (s : Same H H') : ∀ {n : Nat} {x y : V}, Eqd K H n x y → Eqd K H' n x y
  | 0, _, _, h => h.elim
  | n + 1, x, y, h => by
    rcases h with h | ⟨a, b, xs, ys, e1, e2, h, l1, l2, k⟩
    · exact Or.inl h
    · refine Or.inr ⟨a, b, xs, ys, e1, e2, ?_, l1, l2, fun i u v hu hv => (k i u v hu hv).same s⟩
      rcases h with ⟨h1, h2⟩ | ⟨h1, h2⟩
      · exact .inl ⟨s.seq h1, s.seq h2⟩
      · exact .inr ⟨same_t s h1, same_t s h2⟩
theorem Eqd.refl {K : PySem.W.Frag} {H : Hp} {n : Nat} {x : V} (h : Flat x) : Eqd K H (n + 1) x x := Or.inl ⟨rfl, h⟩
/-- two lists of flat things -/
theorem Eqd.lst {K : PySem.W.Frag} {H : Hp} {n : Nat} {a b : Addr} {xs : List V} (h1 : H a = some (.lst xs)) (h2 : H b = some (.lst xs)) (hl : xs.length ≤ 1000) (hf : ∀ x ∈ xs, Flat x) :
    Eqd K H (n + 2) (.ref a) (.ref b) := by
  refine Or.inr ⟨a, b, xs, xs, rfl, rfl, .inl ⟨.inl (.inl h1), .inl (.inl h2)⟩, hl, rfl, fun i u v hu hv => ?_⟩
  have e := Option.some.inj (hu.symm.trans hv)
  subst e
  exact Eqd.refl (hf _ (List.mem_of_getElem? hu))
theorem tyL {K : PySem.W.Frag} {H : Hp} {a : Addr} {xs : List V} (h : SqL K H a xs) : TyX K H (.ref a) (.type "list") := by
  rcases h with (h | ⟨o, h⟩) | ⟨o, its, n, hk, hc, _⟩
  · exact .base (.lst h)
  · exact .base (.frz h)
  · exact .kList hk hc
theorem tyT {K : PySem.W.Frag} {H : Hp} {a : Addr} {xs : List V} (h : SqT K H a xs) : TyX K H (.ref a) (.type "tuple") := by
  rcases h with (h | ⟨o, h⟩) | ⟨o, its, n, hk, hc, _⟩
  · exact .base (.tup h)
  · exact .fTuple h
  · exact .kTuple hk hc
theorem walk_zT {K : PySem.W.Frag} {a b : Addr} {xs ys : List V} {n : Nat} (hn : n = min xs.length ys.length) :
    Walk (ItzT K a b) n (fun H => SqT K H a xs ∧ SqT K H b ys) (YPair (fun i => xs[i]?) (fun i => ys[i]?)) := by
  refine ⟨fun i H hi q => ?_, fun H q => ⟨xs, ys, q.1, q.2, by omega⟩, ?_⟩
  · obtain ⟨lx, ly⟩ := Nat.lt_min.mp (hn ▸ hi)
    exact ⟨xs, ys, _, _, q.1, q.2, List.getElem?_eq_getElem lx, List.getElem?_eq_getElem ly⟩
  · rintro i H v H' _ ⟨qa, qb⟩ ⟨T, x, z, e1, e2, e3, a, b⟩
    exact ⟨T, x, z, e1, e2, e3, a _ qa, b _ qb⟩

theorem kit2 {K : PySem.W.Frag} {t a b : String} {r s : Bool} (h1 : kitB t a = some r) (h2 : kitB t b = some s) :
    PySem.W.kitAny K (.type t) [.type a, .type b] = some (r || s) := by
  refine kitAny_cons (kit_ty h1) (fun e => ?_) (fun e => by rw [e]; rfl)
  subst e
  refine kitAny_cons (kit_ty h2) (fun e => ?_) (fun e => by rw [e]; rfl)
  subst e
  rfl
theorem flat_ty {K : PySem.W.Frag} {x : V} (h : Flat x) : ∃ t, (∀ H, TyX K H x (.type t)) ∧ kitB t "list" = some false ∧ kitB t "tuple" = some false ∧
    (∃ b, kitB t "bool" = some b) ∧ (∃ b, kitB t "int" = some b) ∧ ∃ b, kitB t "str" = some b := by
  cases x with
  | non => exact ⟨"NoneType", fun _ => .base .non, by decide +kernel, by decide +kernel, ⟨false, by decide +kernel⟩, ⟨false, by decide +kernel⟩, ⟨false, by decide +kernel⟩⟩
  | bl b => exact ⟨"bool", fun _ => .base (.bl b), by decide +kernel, by decide +kernel, ⟨true, by decide +kernel⟩, ⟨true, by decide +kernel⟩, ⟨false, by decide +kernel⟩⟩
  | int i => exact ⟨"int", fun _ => .base (.int i), by decide +kernel, by decide +kernel, ⟨false, by decide +kernel⟩, ⟨true, by decide +kernel⟩, ⟨false, by decide +kernel⟩⟩
  | str z => exact ⟨"str", fun _ => .base (.str z), by decide +kernel, by decide +kernel, ⟨false, by decide +kernel⟩, ⟨false, by decide +kernel⟩, ⟨true, by decide +kernel⟩⟩
  | _ => exact h.elim
def spDraws (K : PySem.W.Frag) : Sp := fun vs H Q _ => ∃ (a : Addr) (ns : List Int), vs = [.ref a] ∧
  SqL K H a (ns.map V.int) ∧ ∀ H' r, Same H H' → H r = none → Rng H' r → Q (.ref r) H'
def spDraw : Sp := fun vs H Q _ => ∃ (r : Addr) (n : Int), vs = [.ref r, .int n] ∧ 0 < n ∧ n < 1000000 ∧
  Rng H r ∧ ∀ H' k, Go r H H' → 0 ≤ k → k < n → Q (.int k) H'
def spPick (K : PySem.W.Frag) : Sp := fun vs H Q _ => ∃ (r : Addr) (x : V), vs = [.ref r, x] ∧ Rng H r ∧
  ((∃ a xs, x = .ref a ∧ a ≠ r ∧ SqL K H a xs ∧ 0 < xs.length ∧ xs.length ≤ 1000 ∧ ∀ H' v, Go r H H' → v ∈ xs → Q v H') ∨
   (∃ cs : List Nat, x = .str (S cs) ∧ 0 < cs.length ∧ cs.length ≤ 1000 ∧ ∀ H' c, Go r H H' → c ∈ cs → Q (.str (S [c])) H'))
def spLetters : Sp := fun vs H Q _ => ∃ (r : Addr) (m : Int), vs = [.ref r, .int m] ∧ 2 ≤ m ∧ Rng H r ∧
  ∀ H' gs, Go r H H' → Good gs → (gs.length : Int) ≤ m → Q (.str (S gs)) H'
def spTurn : Sp := fun vs H Q _ => ∃ (r : Addr) (gs : List Nat), vs = [.ref r, .str (S gs)] ∧ gs.length ≤ 1000 ∧ Rng H r ∧
  ∀ H' t, Go r H H' → t.Perm gs → Q (.str (S t)) H'
def spWord : Sp := fun vs H Q _ => ∃ (r : Addr) (gs : List Nat) (m : Int), vs = [.ref r, .str (S gs), .int m] ∧
  0 < gs.length ∧ gs.length ≤ 1000 ∧ 0 ≤ m ∧ m ≤ 1000 ∧ Rng H r ∧
  ∀ H' xs, Go r H H' → (∀ c ∈ xs, c ∈ gs) → (xs.length : Int) ≤ m → Q (.str (S xs)) H'
/-- a text is turned -/
def spTd : Sp := fun vs H Q _ => ∃ gs t xs : List Nat, vs = [.str (S gs), .str (S t), .str (S xs)] ∧ gs.Nodup ∧ gs.length ≤ 1000 ∧
  t.length = gs.length ∧ xs.length ≤ 1000 ∧ (∀ c ∈ xs, c ∈ gs) ∧ ∀ H', Same H H' → Q (.str (S (xs.map (tau gs t)))) H'
def spCk : Sp := fun vs H Q _ => ∃ gs xs : List Nat, vs = [.str (S gs), .str (S xs)] ∧ (∀ c ∈ xs, c ∈ gs) ∧ ∀ H', Same H H' → Q .non H'
def spSm (K : PySem.W.Frag) (n : Nat) : Sp := fun vs H Q _ => ∃ x y, vs = [x, y] ∧ Eqd K H n x y ∧ ∀ H', Same H H' → Q (.bl true) H'
structure SameT (mg : Str → Option Value) : Prop where
  isi : mg "isinstance" = none
  list : mg "list" = none
  tuple : mg "tuple" = none
  len : mg "len" = none
  all : mg "all" = none
  zip : mg "zip" = none
  bool : mg "bool" = none
  int : mg "int" = none
  str : mg "str" = none
/-! ### calls in short -/
structure Cl (P : Program) (w : World) (K : PySem.W.Frag) (mg : Str → Option Value) (base : Heap) (x : Str) (k : Nat) (ps : List Str) (sp : Sp) (f : Addr) (fd : FuncData) : Prop where
  ok : FnOk P w K mg base CX0 k f fd ps sp
  gl : mg x = some (.ref f)
  kp : PySem.W.keepIn K (.ref f) = true
  bd : Binds K fd ps []
section
variable {X : Cx} {k j : Nat} {f : Addr} {fd : FuncData} {ps ks : List Str} {sp : Sp} {x : Str} {p pos : Pos} {e : Expr} {es : List Expr} {kws : List Keyword} {t tk : TA}
theorem pe_cl (C : Cl X.prog X.w X.K X.mg X.base x k ps sp f fd) (hr : Room j X.A) (hk : k ≤ j) (hg : Gl X x) (ha : PA X (e :: es) t)
    (hdb : (x == ("__debug__" : Str)) = false := by decide) (he : starEach (e :: es) X.env = (false, eval e X.env) :: starEach es X.env := by rfl)
    (hpl : (backTo pos (starEach es X.env)).any (·.1) = false := by rfl) :
    PE X (.Call (.Name x p) (e :: es) [] pos) (tCall sp [] E0 t) :=
  pe_call C.ok (hr.mono hk) hg C.gl C.kp C.bd .nil pass0 ha hdb he hpl
end
end Own

namespace Own
open PySem PySem.Spec PyProof.Rows L2 SX
/-! ### try: .. except (A, B) as e: .. -/
/-- a caught exception at a as a clause looks at it, over the def's own state -/
structure Seen (X : Cx) (pins : List (Addr × Obj)) (B : Heap) (a : Addr) (cls : Value) (d : Option Addr) (σ : L2.St) (H : Hp) (s : Shared) : Prop where
  inv : Inv X pins σ H s
  fly : HandSPX.FlyingZ B (X.env :: X.outer) a (Zc cls d) s.heap
  free : H a = none
/-- the exception is none of the frames, so the suite may run with it pinned -/
theorem Seen.go {X : Cx} {pins : List (Addr × Obj)} {B : Heap} {a : Addr} {cls : Value} {d : Option Addr} {σ : L2.St} {H : Hp} {s : Shared}
    (g : Seen X pins B a cls d σ H s) (hf : X.env.frame = some X.env.locals) :
    ∃ oe, s.heap.get? a = some oe ∧ Zc cls d oe ∧ (∃ vs, oe.data = .fields vs) ∧ Inv (X.suite a ((a, oe) :: (X.pn ++ pins))) [] σ H s := by
  obtain ⟨oe, vs, e, hz, hd⟩ := g.fly.there
  have apart : ∀ v ∈ X.env :: X.outer, v.frame ≠ some a := fun v hv q => by
    obtain ⟨_, o', e', n⟩ := g.fly.2.2.1.mem (List.mem_filterMap.mpr ⟨v, hv, q⟩)
    cases e.symm.trans e'
    exact n _ hd
  refine ⟨oe, e, hz, ⟨vs, hd⟩, g.inv.suite e hd g.free (fun q => apart _ List.mem_cons_self (by rw [hf, q])) fun hm => ?_⟩
  obtain ⟨v, hv, q⟩ := List.mem_filterMap.mp hm
  exact apart v (List.mem_cons_of_mem _ hv) q

section
variable {X : Cx} {x1 x2 n : Str} {c1 c2 : Value} {i k : Nat} {body suite : List Stmt} {b0 : Stmt}
variable {p1 p2 pt pos pos' : Pos} {tb : WX → TS} {ts : Addr → Value → Option Addr → TS}
end
end Own

namespace Own
open PySem PySem.Spec PyProof.Rows L2 SX
/-! ### a def called with the caught exception -/
/-! ### the fields of errors -/
end Own

namespace Own
open PySem PySem.Spec PyProof.Rows L2 SX
/-! ### _law_try -/
end Own

namespace Own
open PySem PySem.Spec PyProof.Rows L2 SX
/-! ### tables of code objects, and the drawer -/
theorem tabs_same {T : List (Addr × Str)} {H H' : Hp} (t : LamX.Tabs T H) (s : Same H H') : LamX.Tabs T H' := t.ext s
theorem tabs_go {T : List (Addr × Str)} {r : Addr} {H H' : Hp} (t : LamX.Tabs T H) (g : Go r H H') : LamX.Tabs T H' := by
  intro p hp
  obtain ⟨ps, h1, h2, h3⟩ := t p hp
  obtain ⟨xs, er⟩ := g.rng0.ex
  refine ⟨ps, g.1 _ _ (ne_of h1 er fun e => by cases e) h1, h2, fun pos cv hc => ?_⟩
  obtain ⟨c, e1, e2⟩ := h3 pos cv hc
  exact ⟨c, e1, g.1 _ _ (ne_of e2 er fun e => by unfold LamX.CodeO at e; cases e) e2⟩
theorem rng_extN {r : Addr} {H H' : Hp} (R : Rng H r) (e : LamX.ExtN H H') : Rng H' r := by
  obtain ⟨l, ns, i, b, z, c, R⟩ := R
  exact ⟨l, ns, i, b, z, c, R.1, e _ _ R.2.1 (fun ps h => by cases h), e _ _ R.2.2 (fun ps h => by cases h)⟩
/-- all but the tables and the drawer at r stay; there is a drawer -/
structure Keep (T : List (Addr × Str)) (r : Addr) (H : Hp) : Prop where
  rng : Rng H r
  tab : LamX.Tabs T H
theorem Keep.same {T : List (Addr × Str)} {r : Addr} {H H' : Hp} (k : Keep T r H) (s : Same H H') : Keep T r H' := ⟨k.rng.same s, tabs_same k.tab s⟩
theorem Keep.go {T : List (Addr × Str)} {r : Addr} {H H' : Hp} (k : Keep T r H) (g : Go r H H') : Keep T r H' := ⟨g.rng, tabs_go k.tab g⟩
theorem Keep.ext {T : List (Addr × Str)} {r : Addr} {H H' : Hp} (k : Keep T r H) (e : LamX.ExtN H H') (t : LamX.Tabs T H') : Keep T r H' := ⟨rng_extN k.rng e, t⟩
theorem Keep.new {T : List (Addr × Str)} {r p : Addr} {H : Hp} {o : HO} (k : Keep T r H) (n : H p = none) : Keep T r (upd H p o) := k.same (same_new n)
/-! ### two calls tried -/
section
variable {K : PySem.W.Frag} {mg : Str → Option Value} {T : List (Addr × Str)} {CF CM C : Addr} {H : Hp} {σ : L2.St} {Q : VK} {x : Str} {ta : TA}
/-- the first sign of xs that is none of gs -/
def Bad (gs xs : List Nat) (i : Nat) : Prop := ∃ c : Nat, xs[i]? = some c ∧ c ∉ gs ∧ ∀ (j c' : Nat), j < i → xs[j]? = some c' → c' ∈ gs
theorem Bad.one {gs xs : List Nat} {i j : Nat} (a : Bad gs xs i) (b : Bad gs xs j) : i = j := by
  obtain ⟨c, h1, h2, h3⟩ := a
  obtain ⟨d, k1, k2, k3⟩ := b
  rcases Nat.lt_trichotomy i j with h | h | h
  · exact absurd (k3 i c h h1) h2
  · exact h
  · exact absurd (h3 j d h k1) k2
end
/-! ### signs that stand twice, signs that are none of the letters -/
/-! ### lists of ints compared with nothing -/
/-- two tuples of flat things -/
theorem Eqd.tup {K : PySem.W.Frag} {H : Hp} {n : Nat} {a b : Addr} {xs : List V} (h1 : H a = some (.tup xs)) (h2 : H b = some (.tup xs)) (hl : xs.length ≤ 1000) (hf : ∀ x ∈ xs, Flat x) :
    Eqd K H (n + 2) (.ref a) (.ref b) := by
  refine Or.inr ⟨a, b, xs, xs, rfl, rfl, .inr ⟨.inl (.inl h1), .inl (.inl h2)⟩, hl, rfl, fun i u v hu hv => ?_⟩
  have e := Option.some.inj (hu.symm.trans hv)
  subst e
  exact Eqd.refl (hf _ (List.mem_of_getElem? hu))
/-! ### readings with one end -/
/-- what is due of a text to be checked -/
def Alt (gs xs : List Nat) (code : Str) (v : V) : Prop :=
  (∀ c ∈ xs, c ∈ gs) ∧ code = Str.ofString "value" ∧ v = .non ∨ ∃ i : Nat, Bad gs xs i ∧ code = Str.ofString "UnknownLetter" ∧ v = .int (i : Nat)
theorem Alt.one {gs xs : List Nat} {z z' : Str} {v v' : V} (a : Alt gs xs z v) (b : Alt gs xs z' v') : z = z' ∧ v = v' := by
  rcases a with ⟨h, rfl, rfl⟩ | ⟨i, B, rfl, rfl⟩ <;> rcases b with ⟨h', rfl, rfl⟩ | ⟨j, B', rfl, rfl⟩
  · exact ⟨rfl, rfl⟩
  · obtain ⟨c, h1, h2, _⟩ := B'
    exact absurd (h c (List.mem_of_getElem? h1)) h2
  · obtain ⟨c, h1, h2, _⟩ := B
    exact absurd (h' c (List.mem_of_getElem? h1)) h2
  · rw [B.one B']
    exact ⟨rfl, rfl⟩
theorem Alt.flat {gs xs : List Nat} {z : Str} {v : V} (a : Alt gs xs z v) : Flat v := by
  rcases a with ⟨h, rfl, rfl⟩ | ⟨i, B, rfl, rfl⟩ <;> trivial
end Own

namespace Own
open PySem PySem.Spec PyProof.Rows L2 SX
/-! ### three texts zipped -/
def n3 (x y z : Str) : Nat := min (min x.cps.size y.cps.size) z.cps.size
end Own

namespace Own
open PySem PySem.Spec PyProof.Rows L2 SX
/-! ### what turns make -/
inductive InC (gs : List Nat) (ts : List (List Nat)) : List Nat → Prop
  | one : InC gs ts gs
  | step {x t : List Nat} : InC gs ts x → t ∈ ts → InC gs ts (x.map (tau gs t))
theorem map_tau {gs t : List Nat} (nd : gs.Nodup) (hl : t.length = gs.length) : gs.map (tau gs t) = t := by
  refine List.ext_getElem? fun i => ?_
  rw [List.getElem?_map]
  by_cases h : i < gs.length
  · have h2 : i < t.length := by omega
    rw [List.getElem?_eq_getElem h, List.getElem?_eq_getElem h2]
    show some (t.getD (gs.idxOf gs[i]) 0) = some t[i]
    rw [idx_get nd (List.getElem?_eq_getElem h), List.getD_eq_getElem?_getD, List.getElem?_eq_getElem h2]
    rfl
  · rw [List.getElem?_eq_none (by omega), List.getElem?_eq_none (by omega)]
    rfl
theorem mul_perm {gs x t : List Nat} (nd : gs.Nodup) (hx : x.Perm gs) (ht : t.Perm gs) : (x.map (tau gs t)).Perm gs := by
  refine (hx.map _).trans ?_
  rw [map_tau nd ht.length_eq]
  exact ht
theorem InC.perm {gs : List Nat} {ts : List (List Nat)} (nd : gs.Nodup) (hts : ∀ t ∈ ts, t.Perm gs) {x : List Nat} (h : InC gs ts x) : x.Perm gs := by
  induction h with
  | one => exact List.Perm.refl _
  | step _ ht ih => exact mul_perm nd ih (hts _ ht)
theorem InC.mul {gs : List Nat} {ts : List (List Nat)} (nd : gs.Nodup) (hts : ∀ t ∈ ts, t.Perm gs) {x y : List Nat} (hx : InC gs ts x) (hy : InC gs ts y) :
    InC gs ts (x.map (tau gs y)) := by
  have px := hx.perm nd hts
  induction hy with
  | one =>
    have e : x.map (tau gs gs) = x := (List.map_congr_left fun c hc => tau_self (px.mem_iff.mp hc)).trans (List.map_id x)
    rw [e]
    exact hx
  | step hy' ht ih =>
    rename_i y' t
    have py := hy'.perm nd hts
    have e : x.map (tau gs (y'.map (tau gs t))) = (x.map (tau gs y')).map (tau gs t) := by
      rw [List.map_map]
      exact List.map_congr_left fun c hc => tau_map _ (px.mem_iff.mp hc) py.length_eq
    rw [e]
    exact InC.step ih ht
theorem InC.it {gs : List Nat} {ts : List (List Nat)} (nd : gs.Nodup) (hts : ∀ t ∈ ts, t.Perm gs) {x : List Nat} (hx : InC gs ts x) : ∀ j, InC gs ts (it gs x j)
  | 0 => hx
  | j + 1 => (InC.it nd hts hx j).mul nd hts hx
theorem few : ∀ n ∈ List.range 5, ((lists n n).filter fun p => decide p.Nodup).length ≤ 24 := by decide +kernel
def Closed (gs : List Nat) (ts fs : List (List Nat)) : Prop := ∀ x ∈ fs, ∀ t ∈ ts, x.map (tau gs t) ∈ fs
theorem InC.sub {gs : List Nat} {ts fs : List (List Nat)} (h0 : gs ∈ fs) (hc : Closed gs ts fs) {x : List Nat} (h : InC gs ts x) : x ∈ fs := by
  induction h with
  | one => exact h0
  | step _ ht ih => exact hc _ ih _ ht

/-! ### sorted -/
theorem rising_pw : ∀ (l : List (List Nat)) (p : List Nat), risingS (S p) (l.map S) = true → (p :: l).Pairwise (fun a b => ¬ b < a)
  | [], p, _ => List.pairwise_singleton ..
  | x :: r, p, h => by
    have h' : (!ltCps x p && risingS (S x) (r.map S)) = true := h
    rw [Bool.and_eq_true, Bool.not_eq_true', ltCps_eq, decide_eq_false_iff_not] at h'
    have ih := rising_pw r x h'.2
    refine List.pairwise_cons.mpr ⟨fun y hy => ?_, ih⟩
    rcases List.mem_cons.mp hy with e | hy
    · rw [e]; exact h'.1
    · have h2 : ¬ y < x := (List.pairwise_cons.mp ih).1 y hy
      exact fun lt => absurd (List.le_trans (List.not_lt.mp h'.1) (List.not_lt.mp h2)) (List.not_le.mpr lt)
theorem sorted_pw : ∀ (l : List (List Nat)), sortedS (l.map S) = true → l.Pairwise (fun a b => ¬ b < a)
  | [], _ => List.Pairwise.nil
  | x :: r, h => rising_pw r x h
theorem sorted_one : ∀ (l m : List (List Nat)), l.Pairwise (fun a b => ¬ b < a) → m.Pairwise (fun a b => ¬ b < a) → l.Nodup → m.Nodup → (∀ x, x ∈ l ↔ x ∈ m) → l = m
  | [], [], _, _, _, _, _ => rfl
  | [], y :: s, _, _, _, _, h => by have := (h y).mpr (List.mem_cons_self ..); simp at this
  | x :: r, [], _, _, _, _, h => by have := (h x).mp (List.mem_cons_self ..); simp at this
  | x :: r, y :: s, p1, p2, n1, n2, h => by
    have q1 := List.pairwise_cons.mp p1
    have q2 := List.pairwise_cons.mp p2
    have m1 := List.nodup_cons.mp n1
    have m2 := List.nodup_cons.mp n2
    have e : x = y := by
      have hx := (h x).mp (List.mem_cons_self ..)
      have hy := (h y).mpr (List.mem_cons_self ..)
      rcases List.mem_cons.mp hx with e | hx
      · exact e
      · rcases List.mem_cons.mp hy with e | hy
        · exact e.symm
        · exact List.le_antisymm (List.not_lt.mp (q1.1 y hy)) (List.not_lt.mp (q2.1 x hx))
    subst e
    have ih := sorted_one r s q1.2 q2.2 m1.2 m2.2 fun z => by
      constructor
      · intro hz
        rcases List.mem_cons.mp ((h z).mp (List.mem_cons_of_mem _ hz)) with e | e
        · rw [e] at hz; exact absurd hz m1.1
        · exact e
      · intro hz
        rcases List.mem_cons.mp ((h z).mpr (List.mem_cons_of_mem _ hz)) with e | e
        · rw [e] at hz; exact absurd hz m2.1
        · exact e
    rw [ih]
/-- the sorted list of what is made -/
structure Clo (gs : List Nat) (ts cs : List (List Nat)) : Prop where
  nd : cs.Nodup
  mem : ∀ x, x ∈ cs ↔ InC gs ts x
  srt : sortedS (cs.map S) = true
theorem Clo.one {gs : List Nat} {ts cs ds : List (List Nat)} (a : Clo gs ts cs) (b : Clo gs ts ds) : cs = ds :=
  sorted_one cs ds (sorted_pw cs a.srt) (sorted_pw ds b.srt) a.nd b.nd fun x => (a.mem x).trans (b.mem x).symm
/-- a sorted list of texts that is a rearrangement -/
theorem Clo.of {gs : List Nat} {ts fs : List (List Nat)} {ys : List Str} (nd : fs.Nodup) (h0 : gs ∈ fs) (hc : Closed gs ts fs) (hi : ∀ x ∈ fs, InC gs ts x)
    (hp : ys.Perm (fs.map S)) (hs : sortedS ys = true) : ∃ cs, ys = cs.map S ∧ Clo gs ts cs := by
  have e : (ys.map fun y => y.cps.toList).map S = ys := by
    rw [List.map_map]
    exact (List.map_congr_left fun y _ => S_tl y).trans (List.map_id ys)
  have hp2 : (ys.map fun y => y.cps.toList).Perm fs := by
    have h := hp.map fun y => y.cps.toList
    rw [List.map_map] at h
    have e2 : fs.map ((fun y : Str => y.cps.toList) ∘ S) = fs := (List.map_congr_left fun _ _ => rfl).trans (List.map_id fs)
    rw [e2] at h
    exact h
  refine ⟨_, e.symm, hp2.nodup_iff.mpr nd, fun x => ⟨fun h => hi x (hp2.mem_iff.mp h), fun h => hp2.mem_iff.mpr (h.sub h0 hc)⟩, ?_⟩
  rw [e]
  exact hs
end Own

namespace Own
open PySem PySem.Spec PyProof.Rows L2 SX
/-! ### sorted(text) -/
theorem strs_of {xs : List Str} : ∀ {us : List Value}, us.length = xs.length → (∀ (j : Nat) (v : Value), us[j]? = some v → ∃ y t, xs[j]? = some y ∧ v = .str y t) → StrsAre us xs := by
  induction xs with
  | nil =>
    intro us hl _
    cases us with
    | nil => exact .nil
    | cons _ _ => cases hl
  | cons x r ih =>
    intro us hl h
    cases us with
    | nil => cases hl
    | cons u us =>
      obtain ⟨y, t, e1, rfl⟩ := h 0 u rfl
      cases e1
      exact .cons _ _ (ih (Nat.succ.inj hl) fun j v e => h (j + 1) v e)
section
variable {X : Cx}
theorem call_sortedTx (hcalm : X.calm = true) : CallR X (.builtin "sorted") (fun xs H Q => ∃ (z : Str), xs = [.str z] ∧ z.cps.size < 64 ∧
    ∀ ys p, ys.Perm (z.cps.toList.map fun c => (⟨#[c]⟩ : Str)) → sortedS ys = true → H p = none → Q (.ref p) (upd H p (.lst (ys.map V.str)))) := by
  rintro pins s σ H _ us Q I r ⟨z, rfl, few, q⟩
  obtain ⟨_, rfl, t, rfl⟩ := vals1 r
  have line : z.cps.size ≤ sizeLine := Nat.le_trans (Nat.le_of_lt few) (by rw [sizeLine_eq]; decide)
  have body := Calls.call_function_entry (prog := X.prog) (w := X.w) (A := X.A) (E := X.xe) (s := s) (Q := EP X pins σ Q) kind_sorted plain_sorted entry_sorted (args_sorted1 (.str z t))
  refine body ?_
  rw [Builtin.«sorted»]
  refine wpAny_bind (m := checkCount "sorted" 1 1 _) (wpAny_pure (wpAny_bind (wpAny_collect_str (A := X.A.in1) (I.ok.hd hcalm) z t ?_ line)))
  rintro ⟨g, gens, drawn, tk, os⟩ acc keep (rfl : gens = s.gens) (rfl : drawn = s.drawn) (rfl : os = s.os) ⟨size, signs⟩
  -- the signs, one by one, in a list of their own
  have many : acc.toList.length = z.cps.size := by simpa using size
  have tx1 : StrsAre acc.toList (z.cps.toList.map fun c => (⟨#[c]⟩ : Str)) := by
    refine strs_of (by simpa using size) fun j v e => ?_
    obtain ⟨c, u, at_, rfl⟩ := signs j v (by simpa using e)
    exact ⟨_, u, by simp [at_], rfl⟩
  have made : (g.push (seqObj "list" acc.toList.toArray 0)).get? g.objs.size = some (seqObj "list" acc.toList.toArray 0) := Heap.get?_push_size _ rfl
  refine wpAny_bind (wpAny_newList (wpAny_bind (wpAny_holding (wpAny_call_entry slot_list_sort ⟨_, made, rfl⟩ entry_list_sort (list_sort_treeK strKind_oneLt
    (s := { s with heap := g.push (seqObj "list" acc.toList.toArray 0), toks := tk }) made tx1.keysOf (fun _ _ _ e => keyKind_strs (e ▸ tx1)) (many ▸ few) ?_) (args_list_sort _)))) (many ▸ line))
  intro st perm srt
  refine ⟨_, rfl, ?_⟩
  obtain ⟨ys, out, same, inOrder⟩ := sorted_out_str tx1 perm srt
  obtain ⟨n, lies⟩ := sortedHeap_at (vs := acc.toList) (out := (arrOf st).map (·.2)) made
  have I1 : Inv X pins σ H { s with heap := g, toks := tk } := I.kept keep
  refine wpAny_pure ⟨_, rfl, .ref g.objs.size, upd H g.objs.size (.lst (ys.map V.str)), I1.laid (t' := tk) (fun b o e => ?_) (Nat.le_refl _) ?_, rfl, q ys _ same inOrder (I1.hok.fresh (Nat.le_refl _))⟩
  · have lt := Heap.lt_size e
    exact (sortedHeap_old (Nat.ne_of_lt lt) (by rw [size_push']; exact Nat.lt_add_right 1 lt)).trans (Heap.get?_push_of_some _ e)
  · have short : (ys.map V.str).length ≤ sizeLine := by simpa [same.length_eq] using line
    exact (show ObjOk X.prog X.w _ _ _ (.lst (ys.map V.str)) from ⟨short, _, n, vals_of_strs out, lies.trans (by rw [Array.toArray_toList])⟩)
end
/-! ### count of one sign -/
/-! ### sorted signs -/
theorem signs_of {zs : List Nat} {ys : List Str} (hp : ys.Perm (zs.map fun c => (⟨#[c]⟩ : Str))) : ∃ ls : List (List Nat), ys = ls.map S ∧ ls.Perm (zs.map fun c => [c]) := by
  refine ⟨ys.map fun y => y.cps.toList, ?_, ?_⟩
  · rw [List.map_map]
    refine ((List.map_congr_left fun y hy => ?_).trans (List.map_id ys)).symm
    obtain ⟨c, _, rfl⟩ := List.mem_map.mp (hp.mem_iff.mp hy)
    rfl
  · have := hp.map fun y => y.cps.toList
    rw [List.map_map] at this
    exact this
theorem signs_eq {zs ws : List Nat} {ls ms : List (List Nat)} (h1 : ls.Perm (zs.map fun c => [c])) (h2 : ms.Perm (ws.map fun c => [c])) (s1 : sortedS (ls.map S) = true) (s2 : sortedS (ms.map S) = true) :
    decide (ls = ms) = decide (zs.Perm ws) := by
  rw [decide_eq_decide]
  constructor
  · intro e
    subst e
    have := (h1.symm.trans h2).map fun l => l.headD 0
    simp only [List.map_map] at this
    have e1 : zs.map ((fun l : List Nat => l.headD 0) ∘ fun c => [c]) = zs := (List.map_congr_left fun _ _ => rfl).trans (List.map_id zs)
    have e2 : ws.map ((fun l : List Nat => l.headD 0) ∘ fun c => [c]) = ws := (List.map_congr_left fun _ _ => rfl).trans (List.map_id ws)
    rw [e1, e2] at this
    exact this
  · intro p
    refine List.Perm.eq_of_pairwise (le := fun a b => ¬ b < a) (fun a b _ _ h1 h2 => ?_) (sorted_pw _ s1) (sorted_pw _ s2) ((h1.trans (p.map _)).trans h2.symm)
    exact List.le_antisymm (List.not_lt.mp h1) (List.not_lt.mp h2)
theorem eqvAll_tx : ∀ ls ms : List (List Nat), PyData.eqvAll (ls.map fun c => PyData.str (S c)) (ms.map fun c => PyData.str (S c)) = decide (ls = ms)
  | [], [] => rfl
  | [], _ :: _ => by rw [decide_eq_false (fun e => by cases e)]; rfl
  | _ :: _, [] => by rw [decide_eq_false (fun e => by cases e)]; rfl
  | a :: r, b :: s => by
    show (PyData.eqv (.str (S a)) (.str (S b)) && PyData.eqvAll (r.map fun c => PyData.str (S c)) (s.map fun c => PyData.str (S c))) = _
    rw [eqvAll_tx r s]
    have e : PyData.eqv (.str (S a)) (.str (S b)) = decide (a = b) := by
      show (S a == S b) = _
      rw [Bool.eq_iff_iff, beq_iff_eq, decide_eq_true_iff]
      exact ⟨fun h => S_inj h, fun h => by rw [h]⟩
    rw [e, Bool.eq_iff_iff, Bool.and_eq_true, decide_eq_true_iff, decide_eq_true_iff, decide_eq_true_iff, List.cons.injEq]
/-! ### lists of texts as data -/
theorem lay_tx : ∀ (cs : List (List Nat)), (∀ c ∈ cs, ∀ k ∈ c, k < 128) → PyData.canLayAll0 (cs.map fun c => PyData.str (S c)) = true
  | [], _ => rfl
  | c :: r, h => by
    show (PyData.canLay0 (.str (S c)) && PyData.canLayAll0 (r.map fun c => PyData.str (S c))) = true
    rw [lay_tx r fun x hx => h x (List.mem_cons_of_mem _ hx), Bool.and_true]
    have h1 := h c (List.mem_cons_self ..)
    show ((c.toArray).all (fun k => decide (k < 1114112))) = true
    rw [List.all_toArray, List.all_eq_true]
    intro k hk
    have := h1 k hk
    exact decide_eq_true (by omega)
theorem dep_tx : ∀ (cs : List (List Nat)), PyData.depthAll (cs.map fun c => PyData.str (S c)) = 0
  | [] => rfl
  | c :: r => by
    show max (PyData.depth (.str (S c))) (PyData.depthAll (r.map fun c => PyData.str (S c))) = 0
    rw [dep_tx r]
    rfl
theorem shp_tx {cs : List (List Nat)} (h : ∀ c ∈ cs, ∀ k ∈ c, k < 128) : SeqAt.shaped (.list (cs.map fun c => PyData.str (S c))) = true := by
  unfold SeqAt.shaped
  have e : (PyData.list (cs.map fun c => PyData.str (S c))).depth = 1 := by
    show PyData.depthAll (cs.map fun c => PyData.str (S c)) + 1 = 1
    rw [dep_tx]
  rw [e]
  show (PyData.canLayAll0 (cs.map fun c => PyData.str (S c)) && decide (1 ≤ 64)) = true
  rw [lay_tx cs h]
  rfl
theorem dp_all {K : PySem.W.Frag} {H : Hp} : ∀ cs : List (List Nat), DpAll K H ((cs.map S).map V.str) (cs.map fun c => PyData.str (S c))
  | [] => .nil
  | c :: r => .cons (.str _) (dp_all r)
theorem small_of {zs : List Nat} {ls : List (List Nat)} (hp : ls.Perm (zs.map fun c => [c])) (h : ∀ c ∈ zs, c < 128) : ∀ c ∈ ls, ∀ k ∈ c, k < 128 := by
  intro c hc k hk
  obtain ⟨x, hx, rfl⟩ := List.mem_map.mp (hp.mem_iff.mp hc)
  rw [List.mem_singleton.mp hk]
  exact h x hx
theorem same_put {H H' : Hp} {p : Addr} {o : HO} (s : Same H H') (h : H p = none) : Same H (upd H' p o) := fun b u e => by
  rw [upd_ne (ne_of_none e h)]
  exact s _ _ e
/-! ### the promises -/
def spIs : Sp := fun vs H Q _ => ∃ gs t : List Nat, vs = [.str (S gs), .str (S t)] ∧ gs.length < 64 ∧ t.length < 64 ∧ (∀ c ∈ gs, c < 128) ∧ (∀ c ∈ t, c < 128) ∧
  ∀ H', Same H H' → Q (.bl (decide (t.Perm gs))) H'
section
variable {K : PySem.W.Frag} {mg : Str → Option Value} {T : List (Addr × Str)} {CF CM C : Addr} {H : Hp} {σ : L2.St} {Q : VK} {x : Str} {ta : TA}
end
end Own

namespace Own
open PySem PySem.Spec PyProof.Rows L2 SX
/-! ### a list or a tuple walked -/
def SqA (K : PySem.W.Frag) (H : Hp) (a : Addr) (xs : List V) : Prop := SqL K H a xs ∨ SqT K H a xs
theorem SqA.same {K : PySem.W.Frag} {H H' : Hp} {a : Addr} {xs : List V} (h : SqA K H a xs) (s : Same H H') : SqA K H' a xs := h.imp (fun h => s.seq h) (fun h => same_t s h)
theorem pi_or {X : Cx} {tg l : Expr} {w1 w2 : TI} (h1 : PI X tg l w1) (h2 : PI X tg l w2) : PI X tg l (fun σ H R => w1 σ H R ∨ w2 σ H R) :=
  ⟨fun pins s σ H R I h => h.elim (fun h => h1.run pins s σ H R I h) (fun h => h2.run pins s σ H R I h)⟩
def iAny (K : PySem.W.Frag) (tl : TE) : TI := fun σ H R => iList K tl σ H R ∨ iTup K tl σ H R
theorem pi_any {X : Cx} {tg l : Expr} {tl : TE} (h : PE X l tl) : PI X tg l (iAny X.K tl) := pi_or (pi_list h) (pi_tup h)
theorem it_any {K : PySem.W.Frag} {σ : L2.St} {H H0 : Hp} {R : It → Hp → Prop} {a : Addr} {xs : List V} {tl : TE} (h : ∀ k : VK, k (.ref a) H → tl σ H k) (hs : SqA K H0 a xs) (s0 : Same H0 H)
    (hR : ∀ J : It, Walk J xs.length (fun H' => Same H0 H') (fun i H1 x H2 => H2 = H1 ∧ xs[i]? = some x) → R J H) : iAny K tl σ H R := by
  rcases hs with hs | hs
  · refine .inl (h _ ⟨a, rfl, ⟨xs, s0.seq hs⟩, hR _ ?_⟩)
    exact ⟨fun i H' hi s => (walk_list (K := K) (a := a) (xs := xs)).goes i H' hi (s.seq hs), fun H' s => (walk_list (K := K) (a := a) (xs := xs)).stops H' (s.seq hs), fun i H' x H'' hi s y => (walk_list (K := K) (a := a) (xs := xs)).yields i H' x H'' hi (s.seq hs) y⟩
  · refine .inr (h _ ⟨a, rfl, ⟨xs, same_t s0 hs⟩, hR _ ?_⟩)
    exact ⟨fun i H' hi s => (walk_tup (K := K) (a := a) (xs := xs)).goes i H' hi (same_t s hs), fun H' s => (walk_tup (K := K) (a := a) (xs := xs)).stops H' (same_t s hs), fun i H' x H'' hi s y => (walk_tup (K := K) (a := a) (xs := xs)).yields i H' x H'' hi (same_t s hs) y⟩
/-! ### items of templates -/
abbrev tx (c : List Nat) : V := .str (S c)
/-- letters that may be: 2 to 4 different ones -/
def Row (gs : List Nat) (its : List (List Nat)) : Prop := ∀ x ∈ its, (∃ c, c ∈ gs ∧ x = [c]) ∨ x.Perm gs
def iTx (gs x : List Nat) : List Nat := if 1 < x.length then (if x = gs then [123, 125] else [123] ++ x ++ [125]) else x
def rTx (gs : List Nat) (its : List (List Nat)) : List Nat := if its = [] then [45] else (its.map (iTx gs)).flatten
theorem iTx_len {gs x : List Nat} : (iTx gs x).length ≤ x.length + 2 := by
  unfold iTx
  split
  · split
    · show 2 ≤ _
      omega
    · rw [List.length_append, List.length_append]
      show 1 + _ + 1 ≤ _
      omega
  · omega
theorem flat_len {f : List Nat → List Nat} {m : Nat} : ∀ {its : List (List Nat)}, (∀ x ∈ its, (f x).length ≤ m) → (its.map f).flatten.length ≤ its.length * m
  | [], _ => by simp
  | x :: r, h => by
    have h1 := h x (List.mem_cons_self ..)
    have h2 := flat_len (its := r) fun y hy => h y (List.mem_cons_of_mem _ hy)
    show (f x ++ (r.map f).flatten).length ≤ (r.length + 1) * m
    rw [List.length_append, Nat.add_mul]
    omega
theorem sum_len : ∀ ts : List (List Nat), ((ts.map S).map (·.length)).sum = ts.flatten.length
  | [] => rfl
  | x :: r => by
    show (S x).length + ((r.map S).map (·.length)).sum = (x ++ r.flatten).length
    rw [sum_len r, S_len, List.length_append]
/-! ### promises -/
def spBk : Sp := fun vs H Q _ => ∃ x : List Nat, vs = [tx x] ∧ x.length ≤ 1000 ∧ ∀ H', Same H H' → Q (.bl (decide (1 < x.length))) H'
def spIt : Sp := fun vs H Q _ => ∃ gs x : List Nat, vs = [tx gs, tx x] ∧ gs.length ≤ 1000 ∧ x.length ≤ 1000 ∧ ∀ H', Same H H' → Q (tx (iTx gs x)) H'
def spRt (K : PySem.W.Frag) : Sp := fun vs H Q _ => ∃ (gs : List Nat) (a : Addr) (its : List (List Nat)), vs = [tx gs, .ref a] ∧ gs.length ≤ 1000 ∧ SqA K H a (its.map tx) ∧ its.length ≤ 900 ∧ (∀ x ∈ its, x.length ≤ 900) ∧
  ∀ H', Same H H' → Q (tx (rTx gs its)) H'
/-- each item turned -/
def spTr (K : PySem.W.Frag) : Sp := fun vs H Q _ => ∃ (gs t : List Nat) (a : Addr) (its : List (List Nat)), vs = [tx gs, tx t, .ref a] ∧ gs.Nodup ∧ gs.length ≤ 1000 ∧ t.length = gs.length ∧ SqA K H a (its.map tx) ∧ its.length ≤ 900 ∧
  (∀ x ∈ its, x.length ≤ 1000 ∧ ∀ c ∈ x, c ∈ gs) ∧ ∀ H' p, Same H H' → H p = none → H' p = some (.lst ((its.map fun x => x.map (tau gs t)).map tx)) → Q (.ref p) H'
/-- the inner items in the place of each blank -/
def putL (gs : List Nat) (its inn : List (List Nat)) : List (List Nat) := (its.map fun x => if 1 < x.length then inn.map fun y => y.map (tau gs x) else [x]).flatten
def spPut (K : PySem.W.Frag) : Sp := fun vs H Q _ => ∃ (gs : List Nat) (a b : Addr) (its inn : List (List Nat)), vs = [tx gs, .ref a, .ref b] ∧ gs.Nodup ∧ gs.length ≤ 1000 ∧ Row gs its ∧ SqA K H a (its.map tx) ∧ its.length ≤ 900 ∧
  SqA K H b (inn.map tx) ∧ inn.length ≤ 900 ∧ (∀ x ∈ inn, x.length ≤ 1000 ∧ ∀ c ∈ x, c ∈ gs) ∧ ∀ H' p, Same H H' → H p = none → H' p = some (.lst ((putL gs its inn).map tx)) → Q (.ref p) H'
theorem get_tx {cs : List (List Nat)} {i : Nat} {y : V} (h : (cs.map tx)[i]? = some y) : ∃ c, cs[i]? = some c ∧ y = tx c := by
  rw [List.getElem?_map] at h
  cases e : cs[i]? with
  | none => rw [e] at h; cases h
  | some c => rw [e] at h; exact ⟨c, rfl, (Option.some.inj h).symm⟩
end Own

namespace Own
open PySem PySem.Spec PyProof.Rows L2 SX
theorem slice_mid {a : List Nat} {i j : Nat} : Txt.slice (S a) (some (i : Int)) (some (j : Int)) = S ((a.take j).drop i) := by
  rw [← C8.cutS_slice]
  unfold cutS
  show (⟨_⟩ : Str) = _
  congr 1
  rw [HT.sIx_nat, HT.sIx_nat, S_len]
  congr 1
  show (a.drop (min i a.length)).take (min j a.length - min i a.length) = (a.take j).drop i
  rw [List.drop_take]
  by_cases hi : i ≤ a.length
  · rw [Nat.min_eq_left hi]
    by_cases hj : j ≤ a.length
    · rw [Nat.min_eq_left hj]
    · rw [Nat.min_eq_right (by omega), List.take_of_length_le (by rw [List.length_drop]; omega), List.take_of_length_le (by rw [List.length_drop]; omega)]
  · have e : min i a.length = a.length := Nat.min_eq_right (by omega)
    rw [e, List.drop_eq_nil_of_le (Nat.le_refl _), List.drop_eq_nil_of_le (show a.length ≤ i by omega), List.take_nil, List.take_nil]
theorem mid_app {p z q : List Nat} {i j : Int} (h1 : i = (p.length : Int)) (h2 : j = ((p.length + z.length : Nat) : Int)) : Txt.slice (S (p ++ z ++ q)) (some i) (some j) = S z := by
  subst h1
  subst h2
  rw [slice_mid, List.take_append_of_le_length (by rw [List.length_append]; exact Nat.le_refl _), List.take_of_length_le (by rw [List.length_append]; exact Nat.le_refl _), List.drop_left]
/-! ### forms of items -/
inductive Form (gs : List Nat) : List Nat → List Nat → Prop
  | one {c : Nat} : c ∈ gs → Form gs [c] [c]
  | turn {x : List Nat} : x.Perm gs → Form gs x ([123] ++ x ++ [125])
  | plain : Form gs gs [123, 125]
inductive Forms (gs : List Nat) : List (List Nat) → List (List Nat) → Prop
  | nil : Forms gs [] []
  | cons {x z : List Nat} {its zs : List (List Nat)} : Form gs x z → Forms gs its zs → Forms gs (x :: its) (z :: zs)
/-- a text of the items -/
def Rd (gs : List Nat) (its : List (List Nat)) (t : List Nat) : Prop := (its = [] ∧ t = [45]) ∨ (its ≠ [] ∧ ∃ zs, Forms gs its zs ∧ t = zs.flatten)
theorem form_i {gs x : List Nat} (hg : 2 ≤ gs.length) (h : (∃ c, c ∈ gs ∧ x = [c]) ∨ x.Perm gs) : Form gs x (iTx gs x) := by
  rcases h with ⟨c, hc, rfl⟩ | p
  · have e : iTx gs [c] = [c] := by unfold iTx; rw [if_neg (by show ¬ 1 < 1; omega)]
    rw [e]
    exact .one hc
  · have hl : 1 < x.length := by rw [p.length_eq]; omega
    unfold iTx
    rw [if_pos hl]
    split
    · rename_i e
      rw [e]
      exact .plain
    · exact .turn p
theorem forms_r {gs : List Nat} (hg : 2 ≤ gs.length) : ∀ {its : List (List Nat)}, Row gs its → Forms gs its (its.map (iTx gs))
  | [], _ => .nil
  | x :: r, h => .cons (form_i hg (h x (List.mem_cons_self ..))) (forms_r hg fun y hy => h y (List.mem_cons_of_mem _ hy))
theorem rd_r {gs : List Nat} (hg : 2 ≤ gs.length) {its : List (List Nat)} (h : Row gs its) : Rd gs its (rTx gs its) := by
  unfold rTx
  by_cases e : its = []
  · rw [if_pos e]
    exact .inl ⟨e, rfl⟩
  · rw [if_neg e]
    exact .inr ⟨e, _, forms_r hg h, rfl⟩
theorem form_ne {gs x z : List Nat} (h : Form gs x z) : z ≠ [] := by
  cases h <;> simp
theorem form_head {gs x z : List Nat} (hg : Good gs) (h : Form gs x z) : ∃ c r, z = c :: r ∧ c ≠ 45 := by
  cases h with
  | one hc => exact ⟨_, _, rfl, by have := hg.az _ hc; omega⟩
  | turn p => exact ⟨123, _, rfl, by decide⟩
  | plain => exact ⟨123, _, rfl, by decide⟩
/-! ### promises -/
def spBw : Sp := fun vs H Q _ => ∃ (gs pre post x z : List Nat), vs = [tx gs, tx (pre ++ z ++ post), .int (pre.length : Int)] ∧ Good gs ∧ (pre ++ z ++ post).length ≤ 1000 ∧
  ((z = [123, 125] ∧ ∀ H', Same H H' → Q (.int 2) H') ∨ (x.Perm gs ∧ z = [123] ++ x ++ [125] ∧ ∀ H', Same H H' → Q (.int ((gs.length : Int) + 2)) H'))
def spRd : Sp := fun vs H Q _ => ∃ (gs t : List Nat) (its : List (List Nat)), vs = [tx gs, tx t] ∧ Good gs ∧ t.length ≤ 1000 ∧ Rd gs its t ∧
  ∀ H' p, Same H H' → H p = none → H' p = some (.lst (its.map tx)) → Q (.ref p) H'
def spCLn : Sp := fun vs H Q _ => ∃ gs : List Nat, vs = [tx gs] ∧ Good gs ∧ ∀ H', Same H H' → Q .non H'
/-! ### templates as they lie -/
/-- the template at a: its letters and its items -/
def Tm (C : Addr) (H : Hp) (a : Addr) (gs : List Nat) (its : List (List Nat)) : Prop :=
  ∃ dx p, H a = some (.ins C dx [(Str.ofString "alphabet", tx gs), (Str.ofString "places", V.ref p)]) ∧ H p = some (.tup (its.map tx))
theorem Tm.same {C : Addr} {H H' : Hp} {a : Addr} {gs : List Nat} {its : List (List Nat)} (t : Tm C H a gs its) (s : Same H H') : Tm C H' a gs its := by
  obtain ⟨dx, p, h1, h4⟩ := t
  exact ⟨dx, p, s _ _ h1, s _ _ h4⟩
theorem Tm.go {C : Addr} {H H' : Hp} {a r : Addr} {gs : List Nat} {its : List (List Nat)} (t : Tm C H a gs its) (g : Go r H H') : Tm C H' a gs its := by
  obtain ⟨dx, p, h1, h4⟩ := t
  obtain ⟨xs, er⟩ := g.rng0.ex
  exact ⟨dx, p, g.1 _ _ (ne_of h1 er fun e => by cases e) h1, g.1 _ _ (ne_of h4 er fun e => by cases e) h4⟩
/-- the class -/
structure TmC (K : PySem.W.Frag) (C : Addr) : Prop where
  cls : Cls K C
  na : NoAttr K C "alphabet"
  np : NoAttr K C "places"
/-- __init__: the new instance x gets its two fields -/
def spTi (C : Addr) : Sp := fun vs H Q _ => ∃ (x dx : Addr) (gs t : List Nat) (its : List (List Nat)), vs = [.ref x, tx gs, tx t] ∧ H x = some (.ins C dx []) ∧ Good gs ∧ t.length ≤ 1000 ∧ Rd gs its t ∧
  ∀ H', (∀ b o, b ≠ x → H b = some o → H' b = some o) → Tm C H' x gs its → Q .non H'
def fillL (gs : List Nat) (its : List (List Nat)) (xs : List Nat) : List Nat := (putL gs its [xs]).flatten
def spFi (C : Addr) : Sp := fun vs H Q _ => ∃ (a : Addr) (gs : List Nat) (its : List (List Nat)) (xs : List Nat), vs = [.ref a, tx xs] ∧ Tm C H a gs its ∧ Good gs ∧ Row gs its ∧ its.length ≤ 900 ∧ xs.length ≤ 1000 ∧ (∀ c ∈ xs, c ∈ gs) ∧
  ∀ H', Same H H' → Q (tx (fillL gs its xs)) H'
def spWr (K : PySem.W.Frag) (C : Addr) : Sp := fun vs H Q _ => ∃ (a b : Addr) (gs : List Nat) (its0 its : List (List Nat)), vs = [.ref a, .ref b] ∧ Tm C H a gs its0 ∧ Good gs ∧ Row gs its ∧ SqA K H b (its.map tx) ∧ its.length ≤ 160 ∧
  ∀ H' p, Same H H' → H p = none → Tm C H' p gs its → Q (.ref p) H'
theorem row_len {gs : List Nat} (hg : Good gs) {its : List (List Nat)} (h : Row gs its) : ∀ x ∈ its, x.length ≤ 4 := by
  intro x hx
  have := hg.hi
  rcases h x hx with ⟨c, _, rfl⟩ | p
  · show 1 ≤ 4; omega
  · rw [p.length_eq]; exact hg.hi
theorem row_mem {gs : List Nat} {its : List (List Nat)} (h : Row gs its) : ∀ x ∈ its, ∀ c ∈ x, c ∈ gs := by
  intro x hx c hc
  rcases h x hx with ⟨d, hd, rfl⟩ | p
  · rw [List.mem_singleton.mp hc]; exact hd
  · exact p.mem_iff.mp hc
theorem rTx_len {gs : List Nat} (hg : Good gs) {its : List (List Nat)} (h : Row gs its) (hl : its.length ≤ 160) : (rTx gs its).length ≤ 1000 := by
  unfold rTx
  split
  · show 1 ≤ 1000; omega
  · have := flat_len (f := iTx gs) (m := 6) (its := its) fun x hx => Nat.le_trans iTx_len (by have := row_len hg h x hx; omega)
    omega
theorem put_len {gs : List Nat} {its inn : List (List Nat)} {m : Nat} (hm : 1 ≤ m) (h : inn.length ≤ m) : (putL gs its inn).length ≤ its.length * m := by
  unfold putL
  induction its with
  | nil => exact Nat.zero_le _
  | cons x r ih =>
    rw [List.map_cons, List.flatten_cons, List.length_append, List.length_cons, Nat.add_mul]
    have : (if 1 < x.length then inn.map fun y => y.map (tau gs x) else [x]).length ≤ m := by
      split
      · rw [List.length_map]; exact h
      · exact hm
    omega
end Own

namespace Own
open PySem PySem.Spec PyProof.Rows L2 SX
/-! ### promises of the laws' own helpers -/
def spItems : Sp := fun vs H Q _ => ∃ (r : Addr) (gs : List Nat) (m : Int), vs = [.ref r, tx gs, .int m] ∧ Good gs ∧ 0 ≤ m ∧ m ≤ 100 ∧ Rng H r ∧
  ∀ H' p its, Go r H H' → H p = none → H' p = some (.lst (its.map tx)) → Row gs its → (its.length : Int) ≤ m → Q (.ref p) H'
def spLx (K : PySem.W.Frag) : Sp := fun vs H Q _ => ∃ (gs : List Nat) (a : Addr) (its : List (List Nat)), vs = [tx gs, .ref a] ∧ Good gs ∧ Row gs its ∧ its.length ≤ 100 ∧ SqL K H a (its.map tx) ∧ ∀ H', Same H H' → Q (tx (rTx gs its)) H'
def spLf (K : PySem.W.Frag) : Sp := fun vs H Q _ => ∃ (gs : List Nat) (a : Addr) (its : List (List Nat)) (xs : List Nat), vs = [tx gs, .ref a, tx xs] ∧ Good gs ∧ Row gs its ∧ its.length ≤ 100 ∧ SqL K H a (its.map tx) ∧ xs.length ≤ 1000 ∧ (∀ c ∈ xs, c ∈ gs) ∧
  ∀ H', Same H H' → Q (tx (fillL gs its xs)) H'
def blL (l : List (List Nat)) : List (List Nat) := l.filter fun x => decide (1 < x.length)
def ltL (l : List (List Nat)) : List (List Nat) := l.filter fun x => !decide (1 < x.length)
def nBl (its : List (List Nat)) : Nat := (blL its).length
def nLt (its : List (List Nat)) : Nat := (ltL its).length
theorem blL_len {l : List (List Nat)} : (blL l).length ≤ l.length := List.length_filter_le _ _
theorem ltL_len {l : List (List Nat)} : (ltL l).length ≤ l.length := List.length_filter_le _ _
theorem blL_snoc {l : List (List Nat)} {x : List Nat} : blL (l ++ [x]) = blL l ++ (if 1 < x.length then [x] else []) := by
  unfold blL
  rw [List.filter_append]
  congr 1
  show (match decide (1 < x.length) with | true => [x] | false => []) = _
  by_cases h : 1 < x.length
  · rw [if_pos h, decide_eq_true h]
  · rw [if_neg h, decide_eq_false h]
theorem ltL_snoc {l : List (List Nat)} {x : List Nat} : ltL (l ++ [x]) = ltL l ++ (if 1 < x.length then [] else [x]) := by
  unfold ltL
  rw [List.filter_append]
  congr 1
  show (match !decide (1 < x.length) with | true => [x] | false => []) = _
  by_cases h : 1 < x.length
  · rw [if_pos h, decide_eq_true h]; rfl
  · rw [if_neg h, decide_eq_false h]; rfl
theorem bl_lt : ∀ its : List (List Nat), nBl its + nLt its = its.length
  | [] => rfl
  | x :: r => by
    have ih := bl_lt r
    unfold nBl nLt blL ltL at ih ⊢
    rw [List.filter_cons, List.filter_cons, List.length_cons]
    by_cases h : 1 < x.length
    · rw [if_pos (decide_eq_true h), if_neg (by rw [decide_eq_true h]; decide), List.length_cons]
      omega
    · rw [if_neg (by rw [decide_eq_false h]; decide), if_pos (by rw [decide_eq_false h]; rfl), List.length_cons]
      omega
def spPb (C : Addr) : Sp := fun vs H Q _ => ∃ (a : Addr) (gs : List Nat) (its : List (List Nat)), vs = [.ref a] ∧ Tm C H a gs its ∧ its.length ≤ 900 ∧ (∀ x ∈ its, x.length ≤ 900) ∧ ∀ H', Same H H' → Q (.int (nBl its : Nat)) H'
def spPs (C : Addr) : Sp := fun vs H Q _ => ∃ (a : Addr) (gs : List Nat) (its : List (List Nat)), vs = [.ref a] ∧ Tm C H a gs its ∧ its.length ≤ 900 ∧ (∀ x ∈ its, x.length ≤ 900) ∧ ∀ H', Same H H' → Q (.int (nLt its : Nat)) H'
def spLn (C : Addr) : Sp := fun vs H Q _ => ∃ (a : Addr) (gs : List Nat) (its : List (List Nat)) (n : Int), vs = [.ref a, .int n] ∧ Tm C H a gs its ∧ its.length ≤ 900 ∧ (∀ x ∈ its, x.length ≤ 900) ∧ CMul (nBl its : Nat) n ∧
  ∀ H', Same H H' → Q (.int ((nLt its : Nat) + (nBl its : Nat) * n)) H'
theorem Tm.ext {C : Addr} {H H' : Hp} {a : Addr} {gs : List Nat} {its : List (List Nat)} (t : Tm C H a gs its) (e : LamX.ExtN H H') : Tm C H' a gs its := by
  obtain ⟨dx, p, h1, h4⟩ := t
  exact ⟨dx, p, e _ _ h1 (fun ps h => by cases h), e _ _ h4 (fun ps h => by cases h)⟩
def lf1 (gs : List Nat) (xs x : List Nat) : List Nat := if x.length = 1 then x else xs.map (tau gs x)
theorem lf_eq {gs : List Nat} (hg : Good gs) {its : List (List Nat)} (h : Row gs its) (xs : List Nat) : (its.map (lf1 gs xs)).flatten = fillL gs its xs := by
  unfold fillL putL
  induction its with
  | nil => rfl
  | cons x r ih =>
    have ih := ih fun y hy => h y (List.mem_cons_of_mem _ hy)
    rw [List.map_cons, List.flatten_cons, ih, List.map_cons, List.flatten_cons, List.flatten_append]
    congr 1
    have hx := h x (List.mem_cons_self ..)
    unfold lf1
    rcases hx with ⟨c, _, rfl⟩ | p
    · rw [if_pos (show [c].length = 1 from rfl), if_neg (by show ¬ 1 < 1; omega)]
      simp
    · have := p.length_eq
      have := hg.lo
      rw [if_neg (by omega), if_pos (by omega)]
      simp
theorem row_pos {gs : List Nat} (hg : Good gs) {its : List (List Nat)} (h : Row gs its) : ∀ x ∈ its, 0 < x.length := by
  intro x hx
  rcases h x hx with ⟨c, _, rfl⟩ | p
  · show 0 < 1; omega
  · rw [p.length_eq]; have := hg.lo; omega
theorem fill_len {gs : List Nat} (hg : Good gs) {its : List (List Nat)} (h : Row gs its) (xs : List Nat) : (fillL gs its xs).length = nLt its + nBl its * xs.length := by
  rw [← lf_eq hg h]
  induction its with
  | nil => simp [nLt, nBl, ltL, blL]
  | cons x r ih =>
    have ih := ih fun y hy => h y (List.mem_cons_of_mem _ hy)
    rw [List.map_cons, List.flatten_cons, List.length_append, ih]
    have hx := h x (List.mem_cons_self ..)
    have hl : nLt (x :: r) = (if 1 < x.length then 0 else 1) + nLt r := by
      unfold nLt ltL
      rw [List.filter_cons]
      by_cases h1 : 1 < x.length
      · rw [if_neg (by rw [decide_eq_true h1]; decide), if_pos h1, Nat.zero_add]
      · rw [if_pos (by rw [decide_eq_false h1]; rfl), if_neg h1, List.length_cons]
        omega
    have hb : nBl (x :: r) = (if 1 < x.length then 1 else 0) + nBl r := by
      unfold nBl blL
      rw [List.filter_cons]
      by_cases h1 : 1 < x.length
      · rw [if_pos (decide_eq_true h1), if_pos h1, List.length_cons]
        omega
      · rw [if_neg (by rw [decide_eq_false h1]; decide), if_neg h1, Nat.zero_add]
    rw [hl, hb, Nat.add_mul]
    rcases hx with ⟨c, _, rfl⟩ | p
    · have e : lf1 gs xs [c] = [c] := by unfold lf1; rw [if_pos (show [c].length = 1 from rfl)]
      rw [e, if_neg (by show ¬ 1 < 1; omega), if_neg (by show ¬ 1 < 1; omega)]
      show 1 + _ = _
      omega
    · have hpl := p.length_eq
      have hlo := hg.lo
      have e : lf1 gs xs x = xs.map (tau gs x) := by unfold lf1; rw [if_neg (by omega)]
      rw [e, List.length_map, if_pos (by omega), if_pos (by omega)]
      omega
end Own

namespace Own
open PySem PySem.Spec PyProof.Rows L2 SX
/-! ### x[::-1] of texts and of tuples -/
/-- the slice object that [::-1] makes -/
def BackAt (h : Heap) (a : Addr) (t : Tok) : Prop := h.get? a = some { cls := .type "slice", data := .fields #[.none, .none, .int (-1) t] }
/-- x[::-1], told by what getItem gives of it -/
theorem pe_back {X : Cx} {e : Expr} {te : TE} {k : Nat} {p1 p2 p3 pos : Pos} {G : V → Hp → VK → Prop} (he : PE X e te)
    (hG : ∀ pins s σ H x u a t Q, Inv X pins σ H s → RelV x u → BackAt s.heap a t → G x H Q →
      ∃ T id, typeLookup (.type T) "__getitem__" = pure (some (.builtin id)) ∧ s.TypeIs u T ∧ wpAny (model X.prog X.w) X.A (getItem u (.ref a)) (EP X pins σ Q) X.xe s) :
    PE X (.Subscript e (.Slice none none (some (.UnaryOp .USub (.Constant (.int 1) k p1) p2)) p3) pos) (fun σ H Q => te σ H fun x H1 => G x H1 Q) := by
  constructor
  intro pins s σ H Q I h
  have minus : PO X (some (.UnaryOp .USub (.Constant (.int 1) k p1) p2)) _ := po_some (pe_un un_neg pe_int)
  refine Subscript_ (thn (he.run pins s σ H _ I h) ?_)
  rintro u s1 ⟨x, H1, I1, rx, g⟩
  refine wpAny_Slice ?_
  rw [evalPart_none]
  refine wpAny_pure (wpAny_pure (thn (minus.run pins s1 σ H1 (fun o H2 => o = some (-1) ∧ H2 = H1) I1 ⟨1, rfl, -1, rfl, rfl, rfl⟩) ?_))
  rintro v s2 ⟨_, _, I2, part, rfl, rfl⟩
  cases part with
  | int _ t =>
  have made : BackAt (s2.heap.push { cls := .type "slice", data := .fields #[.none, .none, .int (-1) t] }) s2.heap.objs.size t := Heap.get?_push_size _ rfl
  obtain ⟨T, id, look, ty, run⟩ := hG pins { s2 with heap := s2.heap.push { cls := .type "slice", data := .fields #[.none, .none, .int (-1) t] } } σ _ x u _ t Q (I2.kept (t' := s2.toks) fun _ _ q => Heap.get?_push_of_some _ q) rx made g
  exact tail_any (ops := [u, .ref s2.heap.objs.size]) ty look run (by with_unfolding_all rfl)
theorem back_range (n : Nat) : Builtin.Str.strSliceIndices none none (-1) n = (List.range n).reverse := by
  show sliceRange ((n : Int) - 1) (-1) (-1) = _
  rw [PySem.W.krv_sliceRange, PySem.W.krv_range]
theorem back_list {α : Type} (xs : List α) : ((List.range xs.length).reverse).filterMap (xs[·]?) = xs.reverse := by
  rw [List.filterMap_reverse]
  congr 1
  induction xs with
  | nil => rfl
  | cons x r ih =>
    rw [List.length_cons, List.range_succ_eq_map, List.filterMap_cons]
    show x :: _ = _
    rw [List.filterMap_map]
    congr 1
def gBackS : V → Hp → VK → Prop := fun x H Q => ∃ z : Str, x = .str z ∧ z.cps.size ≤ sizeLine ∧ Q (.str ⟨z.cps.reverse⟩) H
def tBackS (te : TE) : TE := fun σ H Q => te σ H fun x H1 => gBackS x H1 Q
theorem pe_backS {X : Cx} {e : Expr} {te : TE} {k : Nat} {p1 p2 p3 pos : Pos} (he : PE X e te) :
    PE X (.Subscript e (.Slice none none (some (.UnaryOp .USub (.Constant (.int 1) k p1) p2)) p3) pos) (tBackS te) := by
  refine pe_back (G := gBackS) he ?_
  rintro pins s σ H x u a t Q I rx at_ ⟨z, rfl, line, q⟩
  obtain ⟨tk, rfl⟩ := rx
  refine ⟨"str", _, F.slot_str_getitem.lookup, typeIs_str s z tk, ?_⟩
  refine wpAny_getItem_str_slice (l := none) (u := none) (st := some (-1, t)) ⟨_, at_, rfl, rfl⟩ rfl ?_
  have e : sliceMade z tk none none (some (-1, t)) = .str ⟨z.cps.reverse⟩ := by
    unfold sliceMade
    rw [if_neg (by show ¬ (((-1 : Int) == 1) && _) = true; rw [show ((-1 : Int) == 1) = false from rfl, Bool.false_and]; exact Bool.false_ne_true)]
    congr 2
    show ((Builtin.Str.strSliceIndices none none (-1) z.length).filterMap (z.cps[·]?)).toArray = _
    rw [back_range]
    have := back_list z.cps.toList
    simp only [Array.length_toList, Array.getElem?_toList] at this
    show ((List.range z.cps.size).reverse.filterMap (z.cps[·]?)).toArray = _
    rw [this, ← Array.toList_reverse, Array.toArray_toList]
  rw [e]
  exact ⟨by show z.cps.reverse.size ≤ sizeLine; rw [Array.size_reverse]; exact line, .str _, H, I.tok _, ⟨_, rfl⟩, q⟩
def gBackT (K : PySem.W.Frag) : V → Hp → VK → Prop := fun x H Q => ∃ (a : Addr) (xs : List V), x = .ref a ∧ SqT K H a xs ∧ ∀ p, H p = none → Q (.ref p) (upd H p (.tup xs.reverse))
def tBackT (K : PySem.W.Frag) (te : TE) : TE := fun σ H Q => te σ H fun x H1 => gBackT K x H1 Q
/-- the places that [::-1] takes: all, from the last one on -/
theorem back_applied {P : Program} {w : World} {A : Around} {E : Value → Shared → Prop} {s : Shared} {a : Addr} {t : Tok} {n : Nat} {Q : Int × Int × Nat → Shared → Prop} (at_ : BackAt s.heap a t)
    (q : Q ((n : Int) - 1, -1, n) s) : wpAny (model P w) A (Builtin.Slice.sliceApplied (.ref a) (pure (n : Int))) Q E s := by
  unfold Builtin.Slice.sliceApplied Builtin.Slice.sliceFields
  refine wpAny_bind (wpAny_bind (wpAny_field at_ rfl (x := .none) rfl (wpAny_bind (wpAny_field at_ rfl (x := .none) rfl (wpAny_bind (wpAny_field at_ rfl (x := .int (-1) t) rfl (wpAny_pure ?_)))))))
  refine wpAny_bind (HT.slicePart_ (.int (-1) t) ?_)
  rw [if_neg (by decide)]
  refine wpAny_bind (HT.slicePart_ .none (wpAny_bind (HT.slicePart_ .none (wpAny_bind (wpAny_pure ?_)))))
  have places : Builtin.Slice.slicePlaces ((n : Int) - 1) (-1) (-1) = n := by
    unfold Builtin.Slice.slicePlaces
    rw [if_neg (by decide)]
    split
    · rw [show ((n : Int) - 1 - -1 - 1) = (n : Int) - 1 by omega, show -(-1 : Int) = 1 from rfl, Int.ediv_one]
      omega
    · show (0 : Int).toNat = n
      omega
  refine wpAny_pure ?_
  show Q ((n : Int) - 1, -1, Builtin.Slice.slicePlaces ((n : Int) - 1) (-1) (-1)) s
  rw [places]
  exact q
theorem back_items (xs : Array Value) : ((List.range xs.size).filterMap fun (k : Nat) => xs[((xs.size : Int) - 1 + (k : Int) * -1).toNat]?).toArray = xs.reverse := by
  apply Array.toList_inj.mp
  rw [Array.toList_reverse, ← back_list xs.toList]
  have e : (List.range xs.toList.length).reverse = (List.range xs.size).map fun k => xs.size - 1 - k := by
    apply List.ext_getElem
    · simp
    · intro i h1 h2
      simp
  rw [e, List.filterMap_map]
  show List.filterMap _ _ = _
  refine congrArg (fun f => List.filterMap f (List.range xs.size)) ?_
  funext k
  show xs[((xs.size : Int) - 1 + (k : Int) * -1).toNat]? = xs.toList[xs.size - 1 - k]?
  rw [Array.getElem?_toList]
  by_cases h : k < xs.size
  · congr 1
    omega
  · have e1 : ((xs.size : Int) - 1 + (k : Int) * -1).toNat = 0 := by omega
    have e2 : xs.size - 1 - k = 0 := by omega
    rw [e1, e2]
theorem pe_backT {X : Cx} {e : Expr} {te : TE} {k : Nat} {p1 p2 p3 pos : Pos} (he : PE X e te) :
    PE X (.Subscript e (.Slice none none (some (.UnaryOp .USub (.Constant (.int 1) k p1) p2)) p3) pos) (tBackT X.K te) := by
  refine pe_back (G := gBackT X.K) he ?_
  rintro pins s σ H x u a t Q I rx at_ ⟨b, xs, rfl, hx, q⟩
  have eu : u = .ref b := rx
  subst eu
  obtain ⟨its, rel, tup, line⟩ := I.tuple hx
  have size : its.toArray.size ≤ sizeLine := by rw [List.size_toArray, ← rel.length]; exact line
  refine ⟨"tuple", _, PyProof.Rows.slot_tuple_getitem.lookup, tup.typeIs, ?_⟩
  have key : s.TypeIs (.ref a) "slice" := ⟨_, at_, rfl⟩
  have made : EP X pins σ Q (.ref s.heap.objs.size) { s with heap := s.heap.push { cls := .type "tuple", data := .seq its.toArray.reverse } } := by
    refine ⟨.ref s.heap.objs.size, _, I.laid (t' := s.toks) (o := .tup xs.reverse) (fun _ _ q => Heap.get?_push_of_some _ q) (Nat.le_refl _) ?_, rfl, q _ (I.hok.fresh (Nat.le_refl _))⟩
    refine ⟨by rw [List.length_reverse]; exact line, its.reverse, rel.reverse, ?_⟩
    rw [List.reverse_toArray]
    exact IsTup.new _ _
  unfold getItem
  refine wpAny_holding (wpAny_bind (wpAny_sequenceKey tup.typeIs (by decide) (wpAny_bind (wpAny_callSpecial?_slot (name := Str.ofString "__getitem__") tup.typeIs PyProof.Rows.slot_tuple_getitem
    (wpAny_call_entry PyProof.Rows.slot_tuple_getitem tup.typeIs PyProof.Rows.entry_tuple_getitem ?_ (PyProof.Rows.args_tuple_getitem _ _))))))
  refine wpAny_bind (m := Builtin.Tuple.tupleItemsOf (.ref b)) (tupleItemsOf_ tup (wpAny_bind (wpAny_typeOf key ?_)))
  rw [if_pos (by decide)]
  refine wpAny_bind (back_applied at_ ?_)
  have no : ¬ ((((its.toArray.size : Int) - 1 == 0) && ((-1 : Int) == 1) && (its.toArray.size == its.toArray.size)) = true) := by
    rw [show ((-1 : Int) == 1) = false from rfl, Bool.and_false, Bool.false_and]
    exact Bool.false_ne_true
  dsimp only
  rw [if_neg no, back_items]
  refine wpAny_bind (m := Builtin.Tuple.tupleExact its.toArray.reverse) (wpAny_newObj_type (wpAny_pure ⟨_, rfl, wpAny_pure made⟩) ?_)
  show its.toArray.reverse.size ≤ sizeLine
  rw [Array.size_reverse]
  exact size
end Own

namespace Own
open PySem PySem.Spec PyProof.Rows L2 SX
/-! ### a == b, a != b of two instances of one class, by its own __eq__, either answer -/
section
variable {P : Program} {w : World} {A : Around} {E : Value → Shared → Prop} {s : Shared} {K : PySem.W.Frag} {x y C f : Addr} {ox oy : Obj} {dx dy : Option Obj}
end
section
variable {X : Cx} {CX : CXT} {n : Nat} {C f : Addr} {fd : FuncData} {ps : List Str} {sp : Sp} {E : XK}
end
end Own

namespace Own
open PySem PySem.Spec PyProof.Rows L2 SX
/-! ### templates compared, mirrored; promises -/
def spMi (C : Addr) : Sp := fun vs H Q _ => ∃ (a : Addr) (gs : List Nat) (its : List (List Nat)), vs = [.ref a] ∧ Tm C H a gs its ∧ Good gs ∧ Row gs its ∧ its.length ≤ 160 ∧
  ∀ H' p, Same H H' → H p = none → Tm C H' p gs its.reverse → Q (.ref p) H'
theorem row_rev {gs : List Nat} {its : List (List Nat)} (h : Row gs its) : Row gs its.reverse := fun x hx => h x (List.mem_reverse.mp hx)
/-- filled with the text read backwards, the items from the end: the filled text read backwards -/
theorem fill_rev {gs : List Nat} (hg : Good gs) {its : List (List Nat)} (h : Row gs its) (xs : List Nat) : fillL gs its.reverse xs.reverse = (fillL gs its xs).reverse := by
  rw [← lf_eq hg (row_rev h), ← lf_eq hg h, List.reverse_flatten, List.map_reverse, List.map_map]
  congr 2
  refine List.map_congr_left fun x hx => ?_
  show lf1 gs xs.reverse x = (lf1 gs xs x).reverse
  unfold lf1
  rcases h x hx with ⟨c, _, rfl⟩ | p
  · rw [if_pos (show [c].length = 1 from rfl), if_pos (show [c].length = 1 from rfl)]
    rfl
  · have := p.length_eq
    have := hg.lo
    rw [if_neg (by omega), if_neg (by omega), List.map_reverse]
theorem fill_mem {gs : List Nat} (hg : Good gs) {its : List (List Nat)} (h : Row gs its) {xs : List Nat} (hx : ∀ c ∈ xs, c ∈ gs) : ∀ c ∈ fillL gs its xs, c ∈ gs := by
  rw [← lf_eq hg h]
  intro c hc
  obtain ⟨l, hl, hcl⟩ := List.mem_flatten.mp hc
  obtain ⟨x, hxi, rfl⟩ := List.mem_map.mp hl
  unfold lf1 at hcl
  split at hcl
  · exact row_mem h x hxi c hcl
  · rename_i h1
    obtain ⟨d, hd, rfl⟩ := List.mem_map.mp hcl
    have hl : x.length = gs.length := by
      rcases h x hxi with ⟨c, _, rfl⟩ | p
      · exact absurd rfl h1
      · exact p.length_eq
    exact row_mem h x hxi _ (tau_mem (hx d hd) hl)
/-- isinstance facts of the class -/
structure InsC (K : PySem.W.Frag) (C : Addr) : Prop where
  cls : Cls K C
  ha : PySem.W.findIn K (.ref C) "__class__" = some (some (.builtin "object.__class__"))
  hn : PySem.W.specialIn K (.builtin "object.__class__") "__get__" = some (some (.builtin "getset_descriptor.__get__"))
  tk : PySem.W.takesIn K (.builtin "object.__class__") = some true
  ob : PySem.W.mroIn K C (.type "object") = some true
  kit : PySem.W.kitOne K (.ref C) (.ref C) = some true
theorem InsC.ty {K : PySem.W.Frag} {C a dx : Addr} {H : Hp} {fs : List (Str × V)} (i : InsC K C) (e : H a = some (.ins C dx fs)) : TyX K H (.ref a) (.ref C) := .base (.ins e i.cls i.ha i.hn i.tk i.ob)
end Own

namespace Own
open PySem PySem.Spec PyProof.Rows L2 SX
/-! ### templates put into one another -/
theorem none_of {H H' : Hp} (s : Same H H') {p : Addr} (h : H' p = none) : H p = none := by
  cases e : H p with
  | none => rfl
  | some o => rw [s _ _ e] at h; cases h
/-- a template stays where a list is written -/
theorem Tm.put {C : Addr} {H : Hp} {a D : Addr} {gs : List Nat} {its : List (List Nat)} {xs ys : List V} (t : Tm C H a gs its) (hD : H D = some (.lst xs)) : Tm C (upd H D (.lst ys)) a gs its := by
  obtain ⟨dx, p, h1, h4⟩ := t
  exact ⟨dx, p, by rw [upd_ne (ne_of h1 hD fun e => by cases e)]; exact h1, by rw [upd_ne (ne_of h4 hD fun e => by cases e)]; exact h4⟩
/-! ### promises -/
def spCS : Sp := fun vs H Q _ => ∃ gs : List Nat, vs = [tx gs, tx gs] ∧ Q .non H
end Own

namespace Own
open PySem PySem.Spec PyProof.Rows L2 SX
/-! ### a == v, a + b by an own class -/
section
variable {X : Cx} {CX : CXT} {n : Nat} {C f : Addr} {fd : FuncData} {ps : List Str} {sp : Sp} {E : XK}
end
/-! ### lists cut -/
/-! ### promises -/
end Own

namespace Own
open PySem PySem.Spec PyProof.Rows L2 SX
/-! ### len(o), str(o), repr(o) by an own class -/
section
variable {X : Cx} {CX : CXT} {n : Nat} {C f : Addr} {fd : FuncData} {ps : List Str} {sp : Sp} {E : XK}
/-- f(a) from inside of a built-in -/
theorem call_alone {A : Around} {pins : List (Addr × Obj)} {s : Shared} {σ : L2.St} {H : Hp} {a : Addr} {Q : VK} (F : FnOk X.prog X.w X.K X.mg X.base CX n f fd ps sp) (hb : Binds X.K fd ps []) (hx : Passes CX X E)
    (room : Room n A) (fr : A.frames = X.A.frames) (I : Inv X pins σ H s) (asks : sp [.ref a] H Q E) :
    wpAny (model X.prog X.w) A (call (.ref f) [.ref a]) (EP X pins σ Q) X.xe s := by
  have rel : Vals [V.ref a] [Value.ref a] := .cons rfl .nil
  have bound : BindsTo s fd ⟨[.ref a], []⟩ (ps.zip [.ref a]) := by simpa using hb s [.ref a] I.kIn (by simpa using F.len _ _ _ _ asks)
  have around : Env0 X.prog X.w X.K X.mg X.base A X.stack s H := { I.env0 with frames := fr.trans I.env0.frames }
  refine wpAny_call (codeAny_mono (F.run A X.stack s H ⟨[.ref a], []⟩ [.ref a] _ Q E room around bound rel asks) ?_)
  rintro (er | fl) s' out
  · exact hx pins σ H s er s' I out
  · cases fl with
    | ret u => exact I.after out
    | _ => exact out.elim
/-- a method of the class that a built-in asks for -/
structure DunOf (K : PySem.W.Frag) (C : Addr) (m : Str) (f : Addr) : Prop where
  at_ : PySem.W.findIn K (.ref C) m = some (some (.ref f))
  fn : PySem.W.isFn K (.ref f) = true
theorem call_reprO (F : FnOk X.prog X.w X.K X.mg X.base CX n f fd ps sp) (O : DunOf X.K C "__repr__" f) (hb : Binds X.K fd ps []) (hx : Passes CX X E) (hr : Room (n + 1) X.A) :
    CallR X (.builtin "repr") (fun xs H Q => ∃ a dx fs, xs = [.ref a] ∧ H a = some (.ins C dx fs) ∧ sp [.ref a] H (fun v H' => ∃ z : Str, v = .str z ∧ Q (.str z) H') E) := by
  rintro pins s σ H _ us Q I r ⟨a, dx, fs, rfl, ha, asks⟩
  obtain ⟨_, rfl, e⟩ := vals1 r
  cases (show _ = Value.ref a from e)
  obtain ⟨_, JA, _⟩ := ins_get I.hok ha
  obtain ⟨_, JA, _⟩ := JA.look
  obtain ⟨m, hF⟩ := I.fr
  refine PySem.W.repr_K (by have := hr.un; show _ + 1 < _; omega) hF I.ok.mod.kin JA O.at_ O.fn (wpAny_mono (call_alone F hb hx hr.in1 rfl I asks) ?_ fun _ _ e => e)
  rintro _ s' ⟨_, H', I', rz, z, rfl, q⟩
  obtain ⟨t, rfl⟩ := rz
  exact ⟨.str z, H', I', ⟨_, rfl⟩, q⟩
end
/-! ### for i, x in enumerate(t), t a tuple -/
end Own

namespace Own
open PySem PySem.Spec PyProof.Rows L2 SX
/-! ### parts: (true, turn) for a blank, (false, text) for fixed letters side by side -/
abbrev Part := Bool × List Nat
def tp (l : List (List Nat)) : List Part := if l = [] then [] else [(false, l.flatten)]
/-! ### parts as they lie -/
def kd (b : Bool) : V := .str (Str.ofString (if b then "blank" else "text"))
inductive PsA (H : Hp) : List Addr → List Part → Prop
  | nil : PsA H [] []
  | cons {a : Addr} {p : Part} {as : List Addr} {ps : List Part} : H a = some (.tup [kd p.1, tx p.2]) → PsA H as ps → PsA H (a :: as) (p :: ps)
theorem PsA.same {H H' : Hp} (s : Same H H') {as : List Addr} {ps : List Part} (h : PsA H as ps) : PsA H' as ps := by
  induction h with
  | nil => exact .nil
  | cons h _ ih => exact .cons (s _ _ h) ih
theorem PsA.put {H : Hp} {D : Addr} {xs ys : List V} (hD : H D = some (.lst xs)) {as : List Addr} {ps : List Part} (h : PsA H as ps) : PsA (upd H D (.lst ys)) as ps := by
  induction h with
  | nil => exact .nil
  | cons h _ ih => exact .cons (by rw [upd_ne (ne_of h hD fun e => by cases e)]; exact h) ih
theorem PsA.app {H : Hp} {as bs : List Addr} {ps qs : List Part} (h : PsA H as ps) (h' : PsA H bs qs) : PsA H (as ++ bs) (ps ++ qs) := by
  induction h with
  | nil => exact h'
  | cons h _ ih => exact .cons h ih
theorem PsA.len {H : Hp} {as : List Addr} {ps : List Part} (h : PsA H as ps) : as.length = ps.length := by
  induction h with
  | nil => rfl
  | cons _ _ ih => rw [List.length_cons, List.length_cons, ih]
theorem PsA.one {H : Hp} {a : Addr} {p : Part} (h : H a = some (.tup [kd p.1, tx p.2])) : PsA H [a] [p] := .cons h .nil
theorem PsA.get {H : Hp} {as : List Addr} {ps : List Part} (h : PsA H as ps) : ∀ (i : Nat) (a : Addr) (p : Part), as[i]? = some a → ps[i]? = some p → H a = some (.tup [kd p.1, tx p.2]) := by
  induction h with
  | nil => intro i a p h; simp at h
  | cons h _ ih =>
    intro i a p ha hp
    cases i with
    | zero => cases ha; cases hp; exact h
    | succ i => exact ih i a p ha hp
/-- the last one apart -/
theorem PsA.last {H : Hp} {as : List Addr} {F : List Part} {p : Part} (h : PsA H as (F ++ [p])) : ∃ bs a, as = bs ++ [a] ∧ PsA H bs F ∧ H a = some (.tup [kd p.1, tx p.2]) := by
  induction F generalizing as with
  | nil =>
    cases h with
    | cons h r =>
      cases r
      exact ⟨[], _, rfl, .nil, h⟩
  | cons q F ih =>
    cases h with
    | cons h r =>
      obtain ⟨bs, a, rfl, h1, h2⟩ := ih r
      exact ⟨_ :: bs, a, rfl, .cons h h1, h2⟩
/-- a list of parts at l -/
def PsL (H : Hp) (l : Addr) (ps : List Part) : Prop := ∃ as, H l = some (.lst (as.map V.ref)) ∧ PsA H as ps
theorem PsL.same {H H' : Hp} {l : Addr} {ps : List Part} (h : PsL H l ps) (s : Same H H') : PsL H' l ps := let ⟨as, h1, h2⟩ := h; ⟨as, s _ _ h1, h2.same s⟩
/-! ### parts as data -/
theorem len_app (a b : Str) : (a ++ b).length = a.length + b.length := Array.size_append
theorem emp_app (a : Str) : Str.empty ++ a = a := by
  show (⟨#[] ++ a.cps⟩ : Str) = a
  rw [Array.empty_append]
theorem tos_all : ∀ n ∈ List.range 101, (toString ((n : Nat) : Int) : Str).length ≤ 3 := by decide +kernel
theorem tos_len {n : Nat} (h : n < 101) : (toString ((n : Nat) : Int) : Str).length ≤ 3 := tos_all n (List.mem_range.mpr h)
/-! ### promises -/
def spLr (C : Addr) : Sp := fun vs H Q _ => ∃ (a : Addr) (gs : List Nat) (its : List (List Nat)), vs = [.ref a] ∧ Tm C H a gs its ∧ Q (tx gs) H
end Own

namespace Own
open PySem PySem.Spec PyProof.Rows L2 SX
/-! ### texts of templates that cannot be read -/
/-- neither a letter nor a whole blank begins here -/
def Stuck (gs rest : List Nat) : Prop := rest ≠ [] ∧ (∀ c r, rest = c :: r → c ∉ gs) ∧ (∀ post, rest ≠ [123, 125] ++ post) ∧ ∀ x post, rest = [123] ++ x ++ [125] ++ post → ¬ x.Perm gs
/-- the first character that cannot stand there -/
def Fault (gs t : List Nat) (n : Nat) : Prop := t ≠ [45] ∧ ((t = [] ∧ n = 0) ∨ ∃ its zs rest, Forms gs its zs ∧ t = zs.flatten ++ rest ∧ Stuck gs rest ∧ n = zs.flatten.length)
/-- what begins at a place -/
theorem begins (gs rest : List Nat) : rest = [] ∨ (∃ c r, rest = c :: r ∧ c ∈ gs) ∨ ((∀ c r, rest = c :: r → c ∉ gs) ∧ ∃ post, rest = [123, 125] ++ post) ∨
    ((∀ c r, rest = c :: r → c ∉ gs) ∧ ∃ x post, rest = [123] ++ x ++ [125] ++ post ∧ x.Perm gs) ∨ Stuck gs rest := by
  by_cases h0 : rest = []
  · exact .inl h0
  by_cases h1 : ∃ c r, rest = c :: r ∧ c ∈ gs
  · exact .inr (.inl h1)
  have n1 : ∀ c r, rest = c :: r → c ∉ gs := fun c r e h => h1 ⟨c, r, e, h⟩
  by_cases h2 : ∃ post, rest = [123, 125] ++ post
  · exact .inr (.inr (.inl ⟨n1, h2⟩))
  by_cases h3 : ∃ x post, rest = [123] ++ x ++ [125] ++ post ∧ x.Perm gs
  · exact .inr (.inr (.inr (.inl ⟨n1, h3⟩)))
  exact .inr (.inr (.inr (.inr ⟨h0, n1, fun post e => h2 ⟨post, e⟩, fun x post e p => h3 ⟨x, post, e, p⟩⟩)))
/-- a text is read to its end, or up to a fault -/
theorem parse (gs : List Nat) : ∀ (n : Nat) (t : List Nat), t.length ≤ n → ∃ its zs rest, Forms gs its zs ∧ t = zs.flatten ++ rest ∧ (rest = [] ∨ Stuck gs rest) := by
  intro n
  induction n with
  | zero =>
    intro t h
    exact ⟨[], [], [], .nil, List.length_eq_zero_iff.mp (Nat.le_zero.mp h), .inl rfl⟩
  | succ n ih =>
    intro t h
    have go : ∀ (x z post : List Nat), t = z ++ post → 0 < z.length → Form gs x z → ∃ its zs rest, Forms gs its zs ∧ t = zs.flatten ++ rest ∧ (rest = [] ∨ Stuck gs rest) := by
      intro x z post e hz hf
      rw [e, List.length_append] at h
      obtain ⟨its, zs, rest, h1, h2, h3⟩ := ih post (by omega)
      exact ⟨x :: its, z :: zs, rest, .cons hf h1, by rw [e, h2]; simp, h3⟩
    rcases begins gs t with e | ⟨c, r, e, hc⟩ | ⟨_, post, e⟩ | ⟨_, x, post, e, hp⟩ | hs
    · exact ⟨[], [], [], .nil, e, .inl rfl⟩
    · exact go [c] [c] r e Nat.one_pos (.one hc)
    · exact go gs [123, 125] post e (by decide) .plain
    · exact go x ([123] ++ x ++ [125]) post e (by simp) (.turn hp)
    · exact ⟨[], [], t, .nil, rfl, .inr hs⟩
theorem reads (gs t : List Nat) : (∃ its, Rd gs its t) ∨ ∃ n, Fault gs t n := by
  by_cases h0 : t = [45]
  · exact .inl ⟨[], .inl ⟨rfl, h0⟩⟩
  by_cases h1 : t = []
  · exact .inr ⟨0, h0, .inl ⟨h1, rfl⟩⟩
  obtain ⟨its, zs, rest, h2, h3, h4⟩ := parse gs t.length t (Nat.le_refl _)
  rcases h4 with e | hs
  · rw [e, List.append_nil] at h3
    refine .inl ⟨its, .inr ⟨fun e => ?_, zs, h2, h3⟩⟩
    subst e
    cases h2
    exact h1 h3
  · exact .inr ⟨_, h0, .inr ⟨its, zs, rest, h2, h3, hs, rfl⟩⟩
/-! ### promises -/
theorem both {t1 t3 : TE} {σ : L2.St} {H : Hp} {Q : VK} {b1 b3 : Bool} (h1 : ∀ k : VK, k (.bl b1) H → t1 σ H k)
    (h3 : ∀ k : VK, (∀ H', Same H H' → k (.bl b3) H') → t3 σ H k) (q : ∀ H', Same H H' → Q (.bl (b1 && b3)) H') : tAndV t1 t3 σ H Q := by
  refine h1 _ ⟨b1, rfl, ?_⟩
  cases b1 with
  | false => exact iteF (q _ (Same.refl _))
  | true => exact iteT (h3 _ fun H' s => q _ s)
end Own

namespace Own
open PySem PySem.Spec PyProof.Rows L2 SX PySem.StrLaws
/-! ### t.replace("{" + letters + "}", "{}") of a text that can be read is the text in its shortest form -/
end Own

namespace Own
open PySem PySem.Spec PyProof.Rows L2 SX
end Own

namespace Own
open PySem PySem.Spec PyProof.Rows L2 SX
/-! ### promises with wider limits -/
/-! ### one text, one template -/
/-! ### chains -/
/-- templates in a row, as they lie -/
def Tms (C : Addr) (H : Hp) (gs : List Nat) (ms : List Addr) (l : List (List (List Nat))) : Prop := ms.length = l.length ∧ ∀ (i : Nat) (m : Addr) (its : List (List Nat)), ms[i]? = some m → l[i]? = some its → Tm C H m gs its
theorem Tms.same {C : Addr} {H H' : Hp} {gs : List Nat} {ms : List Addr} {l : List (List (List Nat))} (t : Tms C H gs ms l) (s : Same H H') : Tms C H' gs ms l := ⟨t.1, fun i m its h1 h2 => (t.2 i m its h1 h2).same s⟩
theorem Tms.drop {C : Addr} {H : Hp} {gs : List Nat} {ms : List Addr} {l : List (List (List Nat))} (t : Tms C H gs ms l) (s : Nat) : Tms C H gs (ms.drop s) (l.drop s) := by
  refine ⟨by rw [List.length_drop, List.length_drop, t.1], fun i m its h1 h2 => ?_⟩
  rw [List.getElem?_drop] at h1 h2
  exact t.2 _ m its h1 h2
theorem Tms.at {C : Addr} {H : Hp} {gs : List Nat} {ms : List Addr} {l : List (List (List Nat))} (t : Tms C H gs ms l) {i : Nat} {m : Addr} (h : ms[i]? = some m) : ∃ its, l[i]? = some its ∧ Tm C H m gs its := by
  have hi := (List.getElem?_eq_some_iff.mp h).1
  rw [t.1] at hi
  exact ⟨_, List.getElem?_eq_getElem hi, t.2 i m _ h (List.getElem?_eq_getElem hi)⟩
/-! ### promises of chains -/
/-! ### a class held by a name, made -/
/-! ### a dict comprehension over what is walked -/
end Own

namespace Own
open PySem PySem.Spec PyProof.Rows L2 SX
/-! ### fills one after the other -/
theorem fill_le {gs : List Nat} (hg : Good gs) {its : List (List Nat)} (h : Row gs its) {xs : List Nat} {b m : Nat} (hb : its.length ≤ b) (hx : xs.length ≤ m) (hm : 1 ≤ m) : (fillL gs its xs).length ≤ b * m := by
  rw [fill_len hg h]
  have h1 := bl_lt its
  have h2 : nBl its * xs.length ≤ nBl its * m := Nat.mul_le_mul_left _ hx
  have h3 : nLt its * 1 ≤ nLt its * m := Nat.mul_le_mul_left _ hm
  have h4 : (nBl its + nLt its) * m ≤ b * m := Nat.mul_le_mul_right _ (by omega)
  rw [Nat.add_mul] at h4
  omega
/-! ### lists of items, as they lie beside the drawer -/
def Lsts (H : Hp) (r : Addr) (qs : List Addr) (l : List (List (List Nat))) : Prop := qs.length = l.length ∧ ∀ (i : Nat) (q : Addr) (its : List (List Nat)), qs[i]? = some q → l[i]? = some its → q ≠ r ∧ H q = some (.lst (its.map tx))
theorem Lsts.same {H H' : Hp} {r : Addr} {qs : List Addr} {l : List (List (List Nat))} (h : Lsts H r qs l) (s : Same H H') : Lsts H' r qs l := ⟨h.1, fun i q its h1 h2 => ⟨(h.2 i q its h1 h2).1, s _ _ (h.2 i q its h1 h2).2⟩⟩
theorem Lsts.go {H H' : Hp} {r : Addr} {qs : List Addr} {l : List (List (List Nat))} (h : Lsts H r qs l) (g : Go r H H') : Lsts H' r qs l :=
  ⟨h.1, fun i q its h1 h2 => ⟨(h.2 i q its h1 h2).1, g.1 _ _ (h.2 i q its h1 h2).1 (h.2 i q its h1 h2).2⟩⟩
theorem Lsts.at {H : Hp} {r : Addr} {qs : List Addr} {l : List (List (List Nat))} (h : Lsts H r qs l) {i : Nat} {q : Addr} (e : qs[i]? = some q) : ∃ its, l[i]? = some its ∧ q ≠ r ∧ H q = some (.lst (its.map tx)) := by
  have hi := (List.getElem?_eq_some_iff.mp e).1
  rw [h.1] at hi
  exact ⟨_, List.getElem?_eq_getElem hi, h.2 i q _ e (List.getElem?_eq_getElem hi)⟩
theorem Lsts.put {H : Hp} {r D : Addr} {o : HO} {qs : List Addr} {l : List (List (List Nat))} (h : Lsts H r qs l) (n : ∀ q ∈ qs, q ≠ D) : Lsts (upd H D o) r qs l :=
  ⟨h.1, fun i q its h1 h2 => ⟨(h.2 i q its h1 h2).1, by rw [upd_ne (n q (List.mem_of_getElem? h1))]; exact (h.2 i q its h1 h2).2⟩⟩
theorem Lsts.snoc {H : Hp} {r q : Addr} {qs : List Addr} {l : List (List (List Nat))} {its : List (List Nat)} (h : Lsts H r qs l) (n : q ≠ r) (e : H q = some (.lst (its.map tx))) : Lsts H r (qs ++ [q]) (l ++ [its]) := by
  refine ⟨by rw [List.length_append, List.length_append, h.1]; rfl, fun i q' jts h1 h2 => ?_⟩
  by_cases hi : i < qs.length
  · rw [List.getElem?_append_left hi] at h1
    rw [List.getElem?_append_left (by rw [← h.1]; exact hi)] at h2
    exact h.2 i q' jts h1 h2
  · rw [List.getElem?_append_right (by omega)] at h1
    rw [List.getElem?_append_right (by rw [← h.1]; omega), ← h.1] at h2
    have h3 := (List.getElem?_eq_some_iff.mp h1).1
    have h4 : i - qs.length = 0 := by rw [List.length_singleton] at h3; omega
    rw [h4] at h1 h2
    cases h1
    cases h2
    exact ⟨n, e⟩
/-- what is told of drawn rows -/
structure Rows (gs : List Nat) (b n : Nat) (l : List (List (List Nat))) : Prop where
  row : ∀ its ∈ l, Row gs its
  wid : ∀ its ∈ l, its.length ≤ b
  len : l.length ≤ n
theorem Rows.sub {gs : List Nat} {b n : Nat} {l m : List (List (List Nat))} (h : Rows gs b n l) (hm : ∀ x ∈ m, x ∈ l) (hn : m.length ≤ n) : Rows gs b n m := ⟨fun x hx => h.row x (hm x hx), fun x hx => h.wid x (hm x hx), hn⟩
end Own

namespace Own
open PySem PySem.Spec PyProof.Rows L2 SX
/-! ### text * number -/
/-! ### text[::k] -/
end Own

namespace Own
open PySem PySem.Spec PyProof.Rows L2 SX
/-! ### the question -/
def qL (gs : List Nat) (M : Nat) : List Nat := (gs.map fun c => List.replicate M c).flatten
theorem qL_cons (c : Nat) (r : List Nat) (M : Nat) : qL (c :: r) M = List.replicate M c ++ qL r M := rfl
theorem qL_len (M : Nat) : ∀ gs : List Nat, (qL gs M).length = M * gs.length
  | [] => rfl
  | c :: r => by
    rw [qL_cons, List.length_append, List.length_replicate, qL_len M r, List.length_cons, Nat.mul_add, Nat.mul_one, Nat.add_comm]
theorem qL_mem {M : Nat} {c : Nat} : ∀ {gs : List Nat}, c ∈ qL gs M → c ∈ gs := by
  intro gs h
  obtain ⟨l, hl, hc⟩ := List.mem_flatten.mp h
  obtain ⟨d, hd, rfl⟩ := List.mem_map.mp hl
  rw [(List.mem_replicate.mp hc).2]
  exact hd
theorem qL_map (M : Nat) (f : Nat → Nat) : ∀ gs : List Nat, (qL gs M).map f = qL (gs.map f) M
  | [] => rfl
  | c :: r => by rw [qL_cons, List.map_append, List.map_replicate, qL_map M f r, List.map_cons, qL_cons]
theorem qL_tau {gs t : List Nat} {M : Nat} (hg : Good gs) (pt : t.Perm gs) : (qL gs M).map (tau gs t) = qL t M := by rw [qL_map, map_tau hg.nd pt.length_eq]
/-- what stands in the place of a blank -/
theorem fill_bl {gs t : List Nat} {M : Nat} (hg : Good gs) (pt : t.Perm gs) {r : List (List Nat)} (hr : Row gs r) : fillL gs (t :: r) (qL gs M) = qL t M ++ fillL gs r (qL gs M) := by
  have hR : Row gs (t :: r) := fun x hx => by
    rcases List.mem_cons.mp hx with rfl | h
    · exact .inr pt
    · exact hr x h
  rw [← lf_eq hg hR, ← lf_eq hg hr, List.map_cons, List.flatten_cons]
  congr 1
  unfold lf1
  have := pt.length_eq
  have := hg.lo
  rw [if_neg (by omega), qL_tau hg pt]
theorem fill_lt {gs : List Nat} {c : Nat} (hg : Good gs) (hc : c ∈ gs) {r : List (List Nat)} (hr : Row gs r) (xs : List Nat) : fillL gs ([c] :: r) xs = c :: fillL gs r xs := by
  have hR : Row gs ([c] :: r) := fun x hx => by
    rcases List.mem_cons.mp hx with rfl | h
    · exact .inl ⟨c, hc, rfl⟩
    · exact hr x h
  rw [← lf_eq hg hR, ← lf_eq hg hr, List.map_cons, List.flatten_cons]
  rfl
/-- a text read: blanks first -/
inductive Reads (gs : List Nat) (M : Nat) : List Nat → List (List Nat) → Prop
  | nil : Reads gs M [] []
  | blank {t w : List Nat} {r : List (List Nat)} : t.Perm gs → Reads gs M w r → Reads gs M (qL t M ++ w) (t :: r)
  | letter {c : Nat} {w : List Nat} {r : List (List Nat)} : c ∈ gs → (∀ t : List Nat, t.Perm gs → ¬ (qL t M <+: c :: w)) → Reads gs M w r → Reads gs M (c :: w) ([c] :: r)
theorem Reads.row {gs : List Nat} {M : Nat} {w : List Nat} {r : List (List Nat)} (h : Reads gs M w r) : Row gs r := by
  induction h with
  | nil => exact fun x hx => nomatch hx
  | blank pt _ ih =>
    intro x hx
    rcases List.mem_cons.mp hx with rfl | h
    · exact .inr pt
    · exact ih x h
  | letter hc _ _ ih =>
    intro x hx
    rcases List.mem_cons.mp hx with rfl | h
    · exact .inl ⟨_, hc, rfl⟩
    · exact ih x h
theorem Reads.len {gs : List Nat} {M : Nat} (hg : Good gs) (hM : 0 < M) {w : List Nat} {r : List (List Nat)} (h : Reads gs M w r) : r.length ≤ w.length := by
  induction h with
  | nil => exact Nat.le_refl _
  | blank pt _ ih =>
    rw [List.length_cons, List.length_append, qL_len, pt.length_eq]
    have : 1 * 2 ≤ M * gs.length := Nat.mul_le_mul hM hg.lo
    omega
  | letter _ _ _ ih =>
    rw [List.length_cons, List.length_cons]
    omega
theorem Reads.fill {gs : List Nat} {M : Nat} (hg : Good gs) {w : List Nat} {r : List (List Nat)} (h : Reads gs M w r) : fillL gs r (qL gs M) = w := by
  induction h with
  | nil => rfl
  | blank pt h ih => rw [fill_bl hg pt h.row, ih]
  | letter hc _ h ih => rw [fill_lt hg hc h.row, ih]
theorem Reads.mem {gs : List Nat} {M : Nat} {w : List Nat} {r : List (List Nat)} (h : Reads gs M w r) : ∀ c ∈ w, c ∈ gs := by
  induction h with
  | nil => exact fun c hc => nomatch hc
  | blank pt _ ih =>
    intro c hc
    rcases List.mem_append.mp hc with h | h
    · exact pt.mem_iff.mp (qL_mem h)
    · exact ih c h
  | letter hc _ _ ih =>
    intro c h
    rcases List.mem_cons.mp h with rfl | h
    · exact hc
    · exact ih c h
/-! ### promises -/
end Own

namespace Own
open PySem PySem.Spec PyProof.Rows L2 SX LamX
/-! ### a lambda that lies somewhere -/
structure LF where
  params : Arguments
  body : Expr
  scope : Scope
  q : Str
  cl : List (Str × Addr)
  c : Addr
  d : Option (Addr × V)
def LF.dV (F : LF) : Value := match F.d with
  | none => .none
  | some (t, _) => .ref t
abbrev LF.fd (F : LF) (pm ctv : Value) : FuncData :=
  { name := "<lambda>", qualname := F.q, params := F.params, body := .expr F.body, scope := F.scope, globals := mainGlobals, closure := F.cl, defaults := F.dV, kwdefaults := .none, doc := .none, pyModule := pm, annotations := none, code := .ref F.c, closureTuple := ctv, builtins := builtinsNs }
def LamO (f : Addr) (F : LF) : HO := .ext fun h => ∃ (od : Option Addr) (sl : Array (Option Value)) (pm ctv : Value), h.get? f = some (⟨.type "function", od, .func (F.fd pm ctv), sl⟩ : Obj)
/-- the lambda F lies at f, its code object and its default beside it -/
structure LamAt (H : Hp) (f : Addr) (F : LF) : Prop where
  fn : H f = some (LamO f F)
  code : H F.c = some (CodeO F.c F.q)
  dflt : ∀ t v, F.d = some (t, v) → H t = some (.tup [v])
theorem LamAt.same {H H' : Hp} {f : Addr} {F : LF} (l : LamAt H f F) (s : Same H H') : LamAt H' f F := ⟨s _ _ l.fn, s _ _ l.code, fun t v e => s _ _ (l.dflt t v e)⟩
theorem LamAt.ext {H H' : Hp} {f : Addr} {F : LF} (l : LamAt H f F) (e : ExtN H H') : LamAt H' f F :=
  ⟨e _ _ l.fn (fun ps z => by unfold LamO at z; cases z), e _ _ l.code codeO_ne, fun t v h => e _ _ (l.dflt t v h) (fun ps z => by cases z)⟩
theorem LamAt.go {H H' : Hp} {f r : Addr} {F : LF} (l : LamAt H f F) (g : Go r H H') : LamAt H' f F := by
  obtain ⟨xs, er⟩ := g.rng0.ex
  exact ⟨g.1 _ _ (ne_of l.fn er fun z => by unfold LamO at z; cases z) l.fn, g.1 _ _ (ne_of l.code er fun z => by unfold CodeO at z; cases z) l.code, fun t v h => g.1 _ _ (ne_of (l.dflt t v h) er fun z => by cases z) (l.dflt t v h)⟩
/-! ### its making -/
section
variable {M : Model} {A : Around} {E : Value → Shared → Prop} {s : Shared}
end
section
variable {X : Cx} {pins : List (Addr × Obj)} {σ : L2.St} {H : Hp} {s : Shared}
end
/-! ### its call -/
section
variable {X : Cx} {pins : List (Addr × Obj)} {σ : L2.St} {H HZ : Hp} {s s1 : Shared}
end
end Own

namespace Own
open PySem PySem.Spec PyProof.Rows L2 SX LamX
section
variable {X : Cx}
end
end Own

namespace Own
open PySem PySem.Spec PyProof.Rows L2 SX LamX
/-! ### templates of a text -/
end Own

namespace Own
open PySem PySem.Spec PyProof.Rows L2 SX
/-! ### the fields of errors, for all codes -/
section
variable {K : PySem.W.Frag} {mg : Str → Option Value} {x : Str} {C d : Addr} {H : Hp}
end
/-! ### a text that stands in another one from a place on -/
/-! ### every text of the letters is read -/
/-! ### the turns that an exchange of two and the turning round of all make -/
/-! ### promises -/
end Own

namespace Own
open PySem PySem.Spec PyProof.Rows L2 SX
/-! ### wide bounds: lists of up to four million things -/
theorem small1000W {n : Nat} (h : n ≤ 4000) : n < sizeLine := by rw [sizeLine_eq]; omega
end Own

namespace Mch
/-! machines as rows: what the walk of a word is, the order of first occurrences, classes -/
def dl (rows : List (List Nat)) (r p : Nat) : Nat := (rows.getD r []).getD p 0
def wk (rows : List (List Nat)) : Nat → List Nat → Nat
  | r, [] => r
  | r, p :: w => wk rows (dl rows r p) w
structure Ok (d : Nat) (rows : List (List Nat)) : Prop where
  pos : 0 < rows.length
  row : ∀ x ∈ rows, x.length = d
  tg : ∀ x ∈ rows, ∀ t ∈ x, t < rows.length
theorem getD_lt {α : Type} {l : List α} {i : Nat} {d : α} (h : i < l.length) : l.getD i d = l[i] := by
  rw [List.getD_eq_getElem?_getD, List.getElem?_eq_getElem h]; rfl
theorem getD_ge {α : Type} {l : List α} {i : Nat} {d : α} (h : l.length ≤ i) : l.getD i d = d := by
  rw [List.getD_eq_getElem?_getD, List.getElem?_eq_none h]; rfl
theorem getD_map {α β : Type} {l : List α} {i : Nat} {d : α} {e : β} {f : α → β} (h : i < l.length) : (l.map f).getD i e = f (l.getD i d) := by
  rw [getD_lt (by simpa using h), getD_lt h, List.getElem_map]
theorem Ok.dl_lt {d : Nat} {rows : List (List Nat)} (o : Ok d rows) {r p : Nat} (h : r < rows.length) : dl rows r p < rows.length := by
  unfold dl
  rw [getD_lt h]
  by_cases hp : p < rows[r].length
  · rw [getD_lt hp]
    exact o.tg _ (List.getElem_mem h) _ (List.getElem_mem hp)
  · rw [getD_ge (by omega)]
    exact o.pos
theorem Ok.wk_lt {d : Nat} {rows : List (List Nat)} (o : Ok d rows) : ∀ {w : List Nat} {r : Nat}, r < rows.length → wk rows r w < rows.length
  | [], _, h => h
  | p :: w, r, h => Ok.wk_lt o (w := w) (o.dl_lt h)
theorem wk_app {rows : List (List Nat)} : ∀ {u v : List Nat} {r : Nat}, wk rows r (u ++ v) = wk rows (wk rows r u) v
  | [], _, _ => rfl
  | p :: u, v, r => wk_app (u := u) (v := v)
/-! ### first occurrences, in order -/
section
variable {α : Type} [DecidableEq α]
def nubA : List α → List α → List α
  | acc, [] => acc
  | acc, x :: l => nubA (if x ∈ acc then acc else acc ++ [x]) l
theorem nubA_pre : ∀ {l acc : List α}, ∃ r, nubA acc l = acc ++ r
  | [], acc => ⟨[], (List.append_nil _).symm⟩
  | x :: l, acc => by
    obtain ⟨r, hr⟩ := nubA_pre (l := l) (acc := if x ∈ acc then acc else acc ++ [x])
    unfold nubA
    rw [hr]
    split
    · exact ⟨r, rfl⟩
    · exact ⟨x :: r, by rw [List.append_assoc]; rfl⟩
theorem nubA_mem : ∀ {l acc : List α} {x : α}, x ∈ nubA acc l ↔ x ∈ acc ∨ x ∈ l
  | [], acc, x => by simp [nubA]
  | y :: l, acc, x => by
    unfold nubA
    rw [nubA_mem (l := l), List.mem_cons]
    split
    · rename_i h
      constructor
      · rintro (a | a)
        · exact .inl a
        · exact .inr (.inr a)
      · rintro (a | a | a)
        · exact .inl a
        · exact .inl (a ▸ h)
        · exact .inr a
    · rw [List.mem_append, List.mem_singleton, or_assoc]
theorem nubA_nodup : ∀ {l acc : List α}, acc.Nodup → (nubA acc l).Nodup
  | [], _, h => h
  | x :: l, acc, h => by
    unfold nubA
    refine nubA_nodup (l := l) ?_
    split
    · exact h
    · rename_i hx
      rw [List.nodup_append]
      exact ⟨h, by simp, fun a ha b hb => by rw [List.mem_singleton.mp hb]; exact fun e => hx (e ▸ ha)⟩
/-- for each the number of its kind, in the order of first occurrences -/
def numb (l : List α) : List Nat := l.map fun x => (nubA [] l).idxOf x
theorem idxOf_lt {l : List α} {x : α} (h : x ∈ l) : l.idxOf x < l.length := List.idxOf_lt_length_iff.mpr h
theorem idxOf_get {l : List α} {x : α} (h : x ∈ l) : l[l.idxOf x]? = some x := by
  rw [List.getElem?_eq_getElem (idxOf_lt h), List.getElem_idxOf]
theorem idxOf_of_get {l : List α} (nd : l.Nodup) {i : Nat} {x : α} (h : l[i]? = some x) : l.idxOf x = i := by
  obtain ⟨hi, e⟩ := List.getElem?_eq_some_iff.mp h
  rw [← e]
  exact List.Nodup.idxOf_getElem nd i hi
end
theorem nodup_len {l : List Nat} {n : Nat} (nd : l.Nodup) (h : ∀ x ∈ l, x < n) : l.length ≤ n := by
  induction n generalizing l with
  | zero => cases l with
    | nil => exact Nat.le_refl _
    | cons x l => exact absurd (h x (List.mem_cons_self ..)) (by omega)
  | succ n ih =>
    have h1 : (l.erase n).length ≤ n := ih (nd.erase n) fun x hx => by
      have h2 := h x (List.mem_of_mem_erase hx)
      have h3 : x ≠ n := fun e => by
        subst e
        exact (List.Nodup.not_mem_erase nd) hx
      omega
    have h4 := List.length_erase (a := n) (l := l)
    split at h4 <;> omega
end Mch

namespace Mch
/-! ### the rooms that texts lead to, the classes of rooms that are alike, the least machine -/
def rowOf (rows : List (List Nat)) (r : Nat) : List Nat := rows.getD r []
structure Reach (rows : List (List Nat)) (order : List Nat) : Prop where
  eq : order = nubA [0] (order.flatMap (rowOf rows))
  run : ∀ i, i < order.length → i < (nubA [0] ((order.take i).flatMap (rowOf rows))).length
def waysOf (rows : List (List Nat)) (order : List Nat) : List (List Nat) := order.map fun r => (rowOf rows r).map order.idxOf
section
variable {A : Type} (dA : A)
def toldOf (ans : List A) (order : List Nat) : List A := order.map fun r => ans.getD r dA
/-- classes of rooms: alike ones, and those that no text tells apart -/
structure Alike (d : Nat) (ways : List (List Nat)) (told : List A) (l : List Nat) : Prop where
  len : l.length = ways.length
  ans : ∀ p q, p < ways.length → q < ways.length → l.getD p 0 = l.getD q 0 → told.getD p dA = told.getD q dA
  tgt : ∀ p q, p < ways.length → q < ways.length → l.getD p 0 = l.getD q 0 → ∀ a, a < d → l.getD (dl ways p a) 0 = l.getD (dl ways q a) 0
  eqv : ∀ p q, p < ways.length → q < ways.length → (∀ w, (∀ a ∈ w, a < d) → told.getD (wk ways p w) dA = told.getD (wk ways q w) dA) → l.getD p 0 = l.getD q 0
def leastW (ways : List (List Nat)) (l : List Nat) : List (List Nat) := (nubA [] l).map fun x => (rowOf ways (l.idxOf x)).map fun t => (numb l).getD t 0
def leastT (told : List A) (l : List Nat) : List A := (nubA [] l).map fun x => told.getD (l.idxOf x) dA
def Least (d : Nat) (rows : List (List Nat)) (ans : List A) (W : List (List Nat)) (T : List A) : Prop :=
  ∃ order l, Reach rows order ∧ Alike dA d (waysOf rows order) (toldOf dA ans order) l ∧ W = leastW (waysOf rows order) l ∧ T = leastT dA (toldOf dA ans order) l
end
/-! ### what is known of the rooms reached -/
section
variable {d : Nat} {rows : List (List Nat)} {order : List Nat}
theorem Reach.nd (h : Reach rows order) : order.Nodup := by
  rw [h.eq]
  exact nubA_nodup (by simp)
theorem Reach.pre (h : Reach rows order) : ∃ r, order = 0 :: r := by
  obtain ⟨r, e⟩ := nubA_pre (l := order.flatMap (rowOf rows)) (acc := [0])
  exact ⟨r, h.eq.trans e⟩
theorem Reach.zero (h : Reach rows order) : order.idxOf 0 = 0 := by
  obtain ⟨r, e⟩ := h.pre
  rw [e]
  rfl
theorem Reach.closed (h : Reach rows order) {x t : Nat} (hx : x ∈ order) (ht : t ∈ rowOf rows x) : t ∈ order := by
  rw [h.eq, nubA_mem]
  exact .inr (List.mem_flatMap.mpr ⟨x, hx, ht⟩)
theorem rowOf_mem {rows : List (List Nat)} {r t : Nat} (h : t ∈ rowOf rows r) : r < rows.length ∧ rowOf rows r ∈ rows := by
  unfold rowOf at h ⊢
  by_cases hr : r < rows.length
  · rw [getD_lt hr]
    exact ⟨hr, List.getElem_mem hr⟩
  · rw [getD_ge (by omega)] at h
    cases h
theorem Reach.lt (o : Ok d rows) (h : Reach rows order) : ∀ x ∈ order, x < rows.length := by
  intro x hx
  rw [h.eq, nubA_mem] at hx
  rcases hx with e | e
  · rw [List.mem_singleton.mp e]; exact o.pos
  · obtain ⟨y, _, hy⟩ := List.mem_flatMap.mp e
    exact o.tg _ (rowOf_mem hy).2 _ hy
theorem Reach.len (o : Ok d rows) (h : Reach rows order) : order.length ≤ rows.length := nodup_len h.nd (h.lt o)
theorem rowOf_len (o : Ok d rows) {r : Nat} (h : r < rows.length) : (rowOf rows r).length = d := by
  unfold rowOf
  rw [getD_lt h]
  exact o.row _ (List.getElem_mem h)
theorem waysOf_len : (waysOf rows order).length = order.length := List.length_map ..
theorem waysOf_row {i : Nat} (h : i < order.length) : rowOf (waysOf rows order) i = (rowOf rows order[i]).map order.idxOf := by
  unfold waysOf
  show (List.map _ _).getD i [] = _
  rw [getD_map (d := 0) h, getD_lt h]
theorem waysOf_ok (o : Ok d rows) (h : Reach rows order) : Ok d (waysOf rows order) := by
  refine ⟨?_, ?_, ?_⟩
  · obtain ⟨r, e⟩ := h.pre
    rw [waysOf_len, e]
    exact Nat.succ_pos _
  · intro x hx
    obtain ⟨r, hr, e⟩ := List.mem_map.mp hx
    rw [← e, List.length_map]
    exact rowOf_len o (h.lt o r hr)
  · intro x hx t ht
    obtain ⟨r, hr, e⟩ := List.mem_map.mp hx
    rw [← e] at ht
    obtain ⟨u, hu, e2⟩ := List.mem_map.mp ht
    rw [waysOf_len, ← e2]
    exact idxOf_lt (h.closed hr hu)
theorem dl_eq {rows : List (List Nat)} {r p : Nat} : dl rows r p = (rowOf rows r).getD p 0 := rfl
/-- a step among the reached rooms -/
theorem reach_dl (o : Ok d rows) (h : Reach rows order) {i a : Nat} (hi : i < order.length) (ha : a < d) :
    dl (waysOf rows order) i a < order.length ∧ order.getD (dl (waysOf rows order) i a) 0 = dl rows (order.getD i 0) a := by
  have hx : order[i] ∈ order := List.getElem_mem hi
  have hl := rowOf_len o (h.lt o _ hx)
  have e : dl (waysOf rows order) i a = order.idxOf ((rowOf rows order[i]).getD a 0) := by
    rw [dl_eq, waysOf_row hi, getD_map (d := 0) (by omega)]
  have hm : (rowOf rows order[i]).getD a 0 ∈ order := by
    rw [getD_lt (by omega)]
    exact h.closed hx (List.getElem_mem _)
  rw [e]
  refine ⟨idxOf_lt hm, ?_⟩
  rw [getD_lt hi, getD_lt (idxOf_lt hm), List.getElem_idxOf]
  rfl
theorem reach_wk (o : Ok d rows) (h : Reach rows order) : ∀ {w : List Nat} {i : Nat}, i < order.length → (∀ a ∈ w, a < d) →
    wk (waysOf rows order) i w < order.length ∧ order.getD (wk (waysOf rows order) i w) 0 = wk rows (order.getD i 0) w
  | [], i, hi, _ => ⟨hi, rfl⟩
  | a :: w, i, hi, hw => by
    obtain ⟨h1, h2⟩ := reach_dl o h hi (hw a (List.mem_cons_self ..))
    have q := reach_wk o h (w := w) h1 fun b hb => hw b (List.mem_cons_of_mem _ hb)
    rw [h2] at q
    exact q
theorem reach_wk0 (o : Ok d rows) (h : Reach rows order) {w : List Nat} (hw : ∀ a ∈ w, a < d) :
    wk (waysOf rows order) 0 w < order.length ∧ order.getD (wk (waysOf rows order) 0 w) 0 = wk rows 0 w := by
  obtain ⟨r, e⟩ := h.pre
  have h0 : 0 < order.length := by rw [e]; exact Nat.succ_pos _
  have q := reach_wk o h (w := w) h0 hw
  have e0 : order.getD 0 0 = 0 := by rw [e]; rfl
  rw [e0] at q
  exact q
end
/-! ### the least machine's rows -/
section
variable {d : Nat} {ways : List (List Nat)} {l : List Nat}
theorem nub_mem {l : List Nat} {x : Nat} : x ∈ nubA [] l ↔ x ∈ l := by
  rw [nubA_mem]
  simp
theorem numb_at {l : List Nat} {i : Nat} (h : i < l.length) : (numb l).getD i 0 = (nubA [] l).idxOf (l.getD i 0) := by
  unfold numb
  rw [getD_map (d := 0) h]
theorem numb_lt {l : List Nat} {i : Nat} (h : i < l.length) : (numb l).getD i 0 < (nubA [] l).length := by
  rw [numb_at h]
  exact idxOf_lt (nub_mem.mpr (by rw [getD_lt h]; exact List.getElem_mem h))
theorem leastW_len : (leastW ways l).length = (nubA [] l).length := List.length_map ..
theorem leastW_row {c : Nat} (h : c < (nubA [] l).length) : rowOf (leastW ways l) c = (rowOf ways (l.idxOf (nubA [] l)[c])).map fun t => (numb l).getD t 0 := by
  unfold leastW
  show (List.map _ _).getD c [] = _
  rw [getD_map (d := 0) h, getD_lt h]
/-- the first room of a class -/
theorem first_lt {x : Nat} (h : x ∈ nubA [] l) : l.idxOf x < l.length ∧ l.getD (l.idxOf x) 0 = x := by
  have h' := nub_mem.mp h
  exact ⟨idxOf_lt h', by rw [getD_lt (idxOf_lt h'), List.getElem_idxOf]⟩
theorem nub_le_len : (nubA [] l).length ≤ l.length := by
  have aux : ∀ (m acc : List Nat), (nubA acc m).length ≤ acc.length + m.length := by
    intro m
    induction m with
    | nil => intro acc; exact Nat.le_refl _
    | cons x m ih =>
      intro acc
      unfold nubA
      refine Nat.le_trans (ih _) ?_
      rw [List.length_cons]
      split
      · omega
      · rw [List.length_append]
        show acc.length + 1 + _ ≤ _
        omega
  have := aux l []
  simpa using this
section
variable {A : Type} {dA : A} {told : List A}
theorem least_ok (o : Ok d ways) (a : Alike dA d ways told l) : Ok d (leastW ways l) := by
  have hl := a.len
  refine ⟨?_, ?_, ?_⟩
  · rw [leastW_len]
    have : l.getD 0 0 ∈ nubA [] l := nub_mem.mpr (by rw [getD_lt (by rw [hl]; exact o.pos)]; exact List.getElem_mem _)
    exact List.length_pos_of_mem this
  · intro x hx
    obtain ⟨y, hy, e⟩ := List.mem_map.mp hx
    rw [← e, List.length_map]
    exact rowOf_len o (by rw [← hl]; exact (first_lt hy).1)
  · intro x hx t ht
    obtain ⟨y, hy, e⟩ := List.mem_map.mp hx
    rw [← e] at ht
    obtain ⟨u, hu, e2⟩ := List.mem_map.mp ht
    rw [leastW_len, ← e2]
    refine numb_lt ?_
    rw [hl]
    exact o.tg _ (rowOf_mem hu).2 _ hu
/-- a step between classes -/
theorem least_dl (o : Ok d ways) (a : Alike dA d ways told l) {r p : Nat} (hr : r < ways.length) (hp : p < d) :
    dl (leastW ways l) ((numb l).getD r 0) p = (numb l).getD (dl ways r p) 0 := by
  have hl := a.len
  have hc : (numb l).getD r 0 < (nubA [] l).length := numb_lt (by omega)
  have hx : (nubA [] l)[(numb l).getD r 0] = l.getD r 0 := by
    have e := numb_at (l := l) (i := r) (by omega)
    have hm : l.getD r 0 ∈ nubA [] l := nub_mem.mpr (by rw [getD_lt (by omega)]; exact List.getElem_mem _)
    have q := idxOf_get hm
    rw [← e] at q
    exact (List.getElem?_eq_some_iff.mp q).2
  rw [dl_eq, leastW_row hc, hx]
  have hm : l.getD r 0 ∈ nubA [] l := nub_mem.mpr (by rw [getD_lt (by omega)]; exact List.getElem_mem _)
  obtain ⟨f1, f2⟩ := first_lt hm
  have hw : (rowOf ways (l.idxOf (l.getD r 0))).length = d := rowOf_len o (by omega)
  rw [getD_map (d := 0) (by omega)]
  show (numb l).getD (dl ways (l.idxOf (l.getD r 0)) p) 0 = _
  have ht := a.tgt _ r (by omega) hr f2 p hp
  have h1 := o.dl_lt (r := l.idxOf (l.getD r 0)) (p := p) (by omega)
  have h2 := o.dl_lt (p := p) hr
  rw [numb_at (by omega), numb_at (by omega), ht]
theorem least_wk (o : Ok d ways) (a : Alike dA d ways told l) : ∀ {w : List Nat} {r : Nat}, r < ways.length → (∀ b ∈ w, b < d) →
    wk (leastW ways l) ((numb l).getD r 0) w = (numb l).getD (wk ways r w) 0
  | [], _, _, _ => rfl
  | p :: w, r, hr, hw => by
    show wk _ (dl (leastW ways l) ((numb l).getD r 0) p) w = _
    rw [least_dl o a hr (hw p (List.mem_cons_self ..))]
    exact least_wk o a (w := w) (o.dl_lt hr) fun b hb => hw b (List.mem_cons_of_mem _ hb)
theorem least_told (o : Ok d ways) (a : Alike dA d ways told l) {r : Nat} (hr : r < ways.length) : (leastT dA told l).getD ((numb l).getD r 0) dA = told.getD r dA := by
  have hl := a.len
  have hc : (numb l).getD r 0 < (nubA [] l).length := numb_lt (by omega)
  have hm : l.getD r 0 ∈ nubA [] l := nub_mem.mpr (by rw [getD_lt (by omega)]; exact List.getElem_mem _)
  have hx : (nubA [] l).getD ((numb l).getD r 0) 0 = l.getD r 0 := by
    have e := numb_at (l := l) (i := r) (by omega)
    have q := idxOf_get hm
    rw [← e] at q
    obtain ⟨h1, h2⟩ := List.getElem?_eq_some_iff.mp q
    rw [getD_lt h1, h2]
  unfold leastT
  rw [getD_map (d := 0) hc, hx]
  obtain ⟨f1, f2⟩ := first_lt hm
  exact a.ans _ r (by omega) hr f2
theorem numb_zero (h : 0 < l.length) : (numb l).getD 0 0 = 0 := by
  rw [numb_at h]
  cases l with
  | nil => exact absurd h (by simp)
  | cons x l =>
    obtain ⟨r, hr⟩ := nubA_pre (l := l) (acc := [x])
    have e : nubA [] (x :: l) = nubA [x] l := by simp [nubA]
    rw [e, hr]
    simp
/-- the least machine answers every text as the rooms do -/
theorem Least.same {rows : List (List Nat)} {ans : List A} {W : List (List Nat)} {T : List A} (o : Ok d rows) (h : Least dA d rows ans W T) {w : List Nat} (hw : ∀ a ∈ w, a < d) :
    T.getD (wk W 0 w) dA = ans.getD (wk rows 0 w) dA := by
  obtain ⟨order, l, hr, ha, rfl, rfl⟩ := h
  have o2 := waysOf_ok o hr
  have e0 := numb_zero (l := l) (by rw [ha.len]; exact o2.pos)
  have q := least_wk o2 ha (w := w) o2.pos hw
  rw [e0] at q
  obtain ⟨h1, h2⟩ := reach_wk0 o hr hw
  rw [q, least_told o2 ha (by rw [waysOf_len]; exact h1)]
  unfold toldOf
  rw [getD_map (d := 0) h1, h2]
theorem Least.ok {rows : List (List Nat)} {ans : List A} {W : List (List Nat)} {T : List A} (o : Ok d rows) (h : Least dA d rows ans W T) : Ok d W ∧ T.length = W.length ∧ W.length ≤ rows.length := by
  obtain ⟨order, l, hr, ha, rfl, rfl⟩ := h
  have o2 := waysOf_ok o hr
  refine ⟨least_ok o2 ha, ?_, ?_⟩
  · rw [leastW_len]
    exact List.length_map ..
  · rw [leastW_len]
    refine Nat.le_trans nub_le_len ?_
    rw [ha.len, waysOf_len]
    exact hr.len o
theorem Least.mem {rows : List (List Nat)} {ans : List A} {W : List (List Nat)} {T : List A} (o : Ok d rows) (hn : ans.length = rows.length) (h : Least dA d rows ans W T) : ∀ x ∈ T, x ∈ ans := by
  obtain ⟨order, l, hr, ha, rfl, rfl⟩ := h
  intro x hx
  obtain ⟨y, hy, e⟩ := List.mem_map.mp hx
  have h1 := (first_lt hy).1
  rw [ha.len, waysOf_len] at h1
  rw [← e]
  unfold toldOf
  rw [getD_map (d := 0) h1, getD_lt h1, getD_lt (by rw [hn]; exact hr.lt o _ (List.getElem_mem h1))]
  exact List.getElem_mem _
end
end
end Mch

namespace Mch
/-! ### pairs in runs -/
/-- pairs in order by their keys, none twice -/
structure Pairs (ps : List (Nat × Nat)) : Prop where
  ord : ps.Pairwise fun x y => x.1 ≤ y.1
  nd : ps.Nodup
theorem Pairs.tail {x : Nat × Nat} {ps : List (Nat × Nat)} (h : Pairs (x :: ps)) : Pairs ps := ⟨(List.pairwise_cons.mp h.ord).2, (List.nodup_cons.mp h.nd).2⟩
/-! ### the same members, the same size -/
theorem len_of_mem {a b : List Nat} (ha : a.Nodup) (h : ∀ x ∈ a, x ∈ b) : a.length ≤ b.length := by
  induction a generalizing b with
  | nil => exact Nat.zero_le _
  | cons x a ih =>
    have h1 := List.nodup_cons.mp ha
    have h2 : a.length ≤ (b.erase x).length := ih h1.2 fun y hy => by
      refine (List.mem_erase_of_ne ?_).mpr (h y (List.mem_cons_of_mem _ hy))
      exact fun e => h1.1 (e ▸ hy)
    have h3 := List.length_erase (a := x) (l := b)
    rw [if_pos (h x (List.mem_cons_self ..))] at h3
    have h4 := List.length_pos_of_mem (h x (List.mem_cons_self ..))
    rw [List.length_cons]
    omega
theorem all_of_len {a b : List Nat} (ha : a.Nodup) (h : ∀ x ∈ a, x ∈ b) (hl : b.length ≤ a.length) : ∀ x ∈ b, x ∈ a := by
  intro x hx
  by_cases q : x ∈ a
  · exact q
  · have h1 := len_of_mem (a := x :: a) (List.nodup_cons.mpr ⟨q, ha⟩) (b := b) fun y hy => by
      rcases List.mem_cons.mp hy with e | e
      · rw [e]; exact hx
      · exact h y e
    rw [List.length_cons] at h1
    omega
/-! ### stores -/
def setAll (cl : List Nat) : List Nat → Nat → List Nat
  | [], _ => cl
  | r :: rs, c => setAll (cl.set r c) rs c
theorem setAll_len {cl : List Nat} {c : Nat} : ∀ {rs : List Nat}, (setAll cl rs c).length = cl.length := by
  intro rs
  induction rs generalizing cl with
  | nil => rfl
  | cons r rs ih =>
    unfold setAll
    rw [ih, List.length_set]
theorem setAll_get {c r : Nat} : ∀ {rs cl : List Nat}, r < cl.length → (setAll cl rs c).getD r 0 = if r ∈ rs then c else cl.getD r 0 := by
  intro rs
  induction rs with
  | nil => intro cl h; simp [setAll]
  | cons x rs ih =>
    intro cl h
    unfold setAll
    rw [ih (by simpa using h)]
    by_cases q : r ∈ rs
    · rw [if_pos q, if_pos (List.mem_cons_of_mem _ q)]
    · rw [if_neg q]
      by_cases e : x = r
      · subst e
        rw [if_pos (List.mem_cons_self ..), getD_lt (by simpa using h), List.getElem_set_self]
      · rw [if_neg (by rw [List.mem_cons]; exact fun z => z.elim (fun z => e z.symm) q), getD_lt (by simpa using h), getD_lt h, List.getElem_set_ne e]
end Mch

namespace Mch
/-! ### classes that are split until no letter tells rooms of one class apart -/
def cnt (R : Nat) (cl : List Nat) (c : Nat) : Nat := ((List.range R).filter fun r => decide (cl.getD r 0 = c)).length
section
variable {A : Type} (dA : A) (d R : Nat) (ways : List (List Nat)) (told : List A)
def Eqv (p q : Nat) : Prop := ∀ w, (∀ a ∈ w, a < d) → told.getD (wk ways p w) dA = told.getD (wk ways q w) dA
structure HInv (cl : List Nat) (ms : List (List Nat)) (sz : List Nat) : Prop where
  clen : cl.length = R
  slen : sz.length = ms.length
  clt : ∀ r, r < R → cl.getD r 0 < ms.length
  mnd : ∀ c, c < ms.length → (ms.getD c []).Nodup
  mlt : ∀ c, c < ms.length → ∀ r ∈ ms.getD c [], r < R
  mem : ∀ r, r < R → r ∈ ms.getD (cl.getD r 0) []
  siz : ∀ c, c < ms.length → sz.getD c 0 = cnt R cl c
  pos : ∀ c, c < ms.length → 0 < sz.getD c 0
  ans : ∀ p q, p < R → q < R → cl.getD p 0 = cl.getD q 0 → told.getD p dA = told.getD q dA
  eqv : ∀ p q, p < R → q < R → Eqv dA d ways told p q → cl.getD p 0 = cl.getD q 0
/-- rooms of a class that a letter parts: some waiting class tells them, or it is still to come -/
def Sep (cl wt : List Nat) (rem : Nat → Nat → Prop) (Y : Nat → Prop) : Prop := ∀ p q a, p < R → q < R → a < d → cl.getD p 0 = cl.getD q 0 → cl.getD (dl ways p a) 0 ≠ cl.getD (dl ways q a) 0 →
  (∃ c ∈ wt, ¬ (cl.getD (dl ways p a) 0 = c ↔ cl.getD (dl ways q a) 0 = c)) ∨ (rem a (cl.getD p 0) ∧ ¬ (Y (dl ways p a) ↔ Y (dl ways q a)))
end
section
variable {A : Type} {dA : A} {d R : Nat} {ways : List (List Nat)} {told : List A} {cl : List Nat} {ms : List (List Nat)} {sz wt : List Nat}
theorem cnt_mem {c r : Nat} : r ∈ (List.range R).filter (fun r => decide (cl.getD r 0 = c)) ↔ r < R ∧ cl.getD r 0 = c := by
  rw [List.mem_filter, decide_eq_true_iff, List.mem_range]
theorem cnt_nd {c : Nat} : ((List.range R).filter (fun r => decide (cl.getD r 0 = c))).Nodup := List.nodup_range.filter _
theorem HInv.all (I : HInv dA d R ways told cl ms sz) {c : Nat} (hc : c < ms.length) {hit : List Nat} (hnd : hit.Nodup) (hin : ∀ r ∈ hit, r < R ∧ cl.getD r 0 = c) (hl : hit.length = sz.getD c 0) :
    ∀ r, r < R → cl.getD r 0 = c → r ∈ hit := by
  intro r h1 h2
  refine all_of_len hnd (b := (List.range R).filter fun r => decide (cl.getD r 0 = c)) (fun x hx => cnt_mem.mpr (hin x hx)) ?_ r (cnt_mem.mpr ⟨h1, h2⟩)
  rw [hl, I.siz c hc]
  exact Nat.le_refl _
/-- how a class is parted: the rooms that go, the lists behind it -/
structure Part (c : Nat) (hit small : List Nat) (ms1 : List (List Nat)) : Prop where
  nd : small.Nodup
  inn : ∀ r ∈ small, r < R ∧ cl.getD r 0 = c
  ne : small ≠ []
  lt : small.length < sz.getD c 0
  iff : ∀ p q, p < R → q < R → cl.getD p 0 = c → cl.getD q 0 = c → ((p ∈ small ↔ q ∈ small) ↔ (p ∈ hit ↔ q ∈ hit))
  len : ms1.length = ms.length
  els : ∀ x, x ≠ c → ms1.getD x [] = ms.getD x []
  mnd : (ms1.getD c []).Nodup
  mlt : ∀ r ∈ ms1.getD c [], r < R
  mem : ∀ r, r < R → cl.getD r 0 = c → r ∉ small → r ∈ ms1.getD c []
theorem getD_snoc_lt {α : Type} {l : List α} {x dx : α} {i : Nat} (h : i < l.length) : (l ++ [x]).getD i dx = l.getD i dx := by
  rw [getD_lt (by rw [List.length_append]; omega), getD_lt h, List.getElem_append_left h]
theorem getD_snoc_eq {α : Type} {l : List α} {x dx : α} : (l ++ [x]).getD l.length dx = x := by
  rw [getD_lt (by rw [List.length_append]; show _ < _ + 1; omega), List.getElem_append_right (Nat.le_refl _)]
  simp
/-- the classes behind the split -/
theorem Part.cls {c : Nat} {hit small : List Nat} {ms1 : List (List Nat)} (I : HInv dA d R ways told cl ms sz) (P : Part (R := R) (cl := cl) (ms := ms) (sz := sz) c hit small ms1) {r : Nat} (h : r < R) :
    (setAll cl small ms.length).getD r 0 = if r ∈ small then ms.length else cl.getD r 0 := setAll_get (by rw [I.clen]; exact h)
theorem Part.same {c : Nat} {hit small : List Nat} {ms1 : List (List Nat)} (I : HInv dA d R ways told cl ms sz) (P : Part (R := R) (cl := cl) (ms := ms) (sz := sz) c hit small ms1) {p q : Nat} (hp : p < R) (hq : q < R) :
    (setAll cl small ms.length).getD p 0 = (setAll cl small ms.length).getD q 0 ↔ cl.getD p 0 = cl.getD q 0 ∧ (cl.getD p 0 = c → (p ∈ hit ↔ q ∈ hit)) := by
  rw [P.cls I hp, P.cls I hq]
  have a1 := I.clt p hp
  have a2 := I.clt q hq
  by_cases h1 : p ∈ small <;> by_cases h2 : q ∈ small
  · rw [if_pos h1, if_pos h2]
    have e1 := (P.inn p h1).2
    have e2 := (P.inn q h2).2
    refine ⟨fun _ => ⟨by rw [e1, e2], fun _ => (P.iff p q hp hq e1 e2).mp ⟨fun _ => h2, fun _ => h1⟩⟩, fun _ => rfl⟩
  · rw [if_pos h1, if_neg h2]
    have e1 := (P.inn p h1).2
    refine ⟨fun z => by omega, fun z => ?_⟩
    have e2 : cl.getD q 0 = c := by rw [← z.1]; exact e1
    exact absurd (((P.iff p q hp hq e1 e2).mpr (z.2 e1)).mp h1) h2
  · rw [if_neg h1, if_pos h2]
    have e2 := (P.inn q h2).2
    refine ⟨fun z => by omega, fun z => ?_⟩
    have e1 : cl.getD p 0 = c := by rw [z.1]; exact e2
    exact absurd (((P.iff p q hp hq e1 e2).mpr (z.2 e1)).mpr h2) h1
  · rw [if_neg h1, if_neg h2]
    refine ⟨fun z => ⟨z, fun e1 => (P.iff p q hp hq e1 (by rw [← z]; exact e1)).mp ⟨fun y => absurd y h1, fun y => absurd y h2⟩⟩, fun z => z.1⟩
theorem HInv.split (I : HInv dA d R ways told cl ms sz) {c : Nat} (hc : c < ms.length) {hit small : List Nat} {ms1 : List (List Nat)} (P : Part (R := R) (cl := cl) (ms := ms) (sz := sz) c hit small ms1)
    (sat : ∀ p q, p < R → q < R → cl.getD p 0 = c → cl.getD q 0 = c → Eqv dA d ways told p q → (p ∈ hit ↔ q ∈ hit)) :
    HInv dA d R ways told (setAll cl small ms.length) (ms1 ++ [small]) (sz.set c (sz.getD c 0 - small.length) ++ [small.length]) := by
  have hl : (ms1 ++ [small]).length = ms.length + 1 := by rw [List.length_append, P.len]; rfl
  have hcs : c < sz.length := by rw [I.slen]; exact hc
  have cnts : ∀ x, x < ms.length + 1 → cnt R (setAll cl small ms.length) x = if x = ms.length then small.length else if x = c then sz.getD c 0 - small.length else cnt R cl x := by
    intro x hx
    have ec := I.siz c hc
    by_cases e1 : x = ms.length
    · rw [if_pos e1]
      refine Nat.le_antisymm ?_ ?_
      · refine len_of_mem cnt_nd fun r hr => ?_
        obtain ⟨q1, q2⟩ := cnt_mem.mp hr
        rw [P.cls I q1] at q2
        by_cases q : r ∈ small
        · exact q
        · rw [if_neg q] at q2
          have := I.clt r q1
          omega
      · refine len_of_mem P.nd fun r hr => cnt_mem.mpr ⟨(P.inn r hr).1, ?_⟩
        rw [P.cls I (P.inn r hr).1, if_pos hr, e1]
    · rw [if_neg e1]
      by_cases e2 : x = c
      · rw [if_pos e2, ec]
        have hs : small.length + cnt R (setAll cl small ms.length) x = cnt R cl c := by
          refine Nat.le_antisymm ?_ ?_
          · unfold cnt
            rw [← List.length_append]
            refine len_of_mem (List.nodup_append.mpr ⟨P.nd, cnt_nd, fun a ha b hb => ?_⟩) fun r hr => ?_
            · intro eab
              obtain ⟨q1, q2⟩ := cnt_mem.mp hb
              rw [P.cls I q1, ← eab, if_pos ha] at q2
              omega
            · rcases List.mem_append.mp hr with z | z
              · exact cnt_mem.mpr (P.inn r z)
              · obtain ⟨q1, q2⟩ := cnt_mem.mp z
                rw [P.cls I q1] at q2
                by_cases q : r ∈ small
                · rw [if_pos q] at q2; omega
                · rw [if_neg q] at q2
                  exact cnt_mem.mpr ⟨q1, by rw [q2, e2]⟩
          · unfold cnt
            rw [← List.length_append]
            refine len_of_mem cnt_nd fun r hr => ?_
            obtain ⟨q1, q2⟩ := cnt_mem.mp hr
            by_cases q : r ∈ small
            · exact List.mem_append_left _ q
            · refine List.mem_append_right _ (cnt_mem.mpr ⟨q1, ?_⟩)
              rw [P.cls I q1, if_neg q, q2, e2]
        omega
      · rw [if_neg e2]
        unfold cnt
        congr 1
        refine List.filter_congr fun r hr => ?_
        have q1 := List.mem_range.mp hr
        rw [P.cls I q1]
        by_cases q : r ∈ small
        · rw [if_pos q, (P.inn r q).2]
          rw [decide_eq_false (fun z => e1 z.symm), decide_eq_false (fun z => e2 z.symm)]
        · rw [if_neg q]
  have ge : ∀ x, x < ms.length → (ms1 ++ [small]).getD x [] = ms1.getD x [] := fun x hx => getD_snoc_lt (by rw [P.len]; exact hx)
  have gn : (ms1 ++ [small]).getD ms.length [] = small := by rw [← P.len]; exact getD_snoc_eq
  have zn : (sz.set c (sz.getD c 0 - small.length) ++ [small.length]).getD ms.length 0 = small.length := by
    have e : (sz.set c (sz.getD c 0 - small.length)).length = ms.length := by rw [List.length_set, I.slen]
    rw [← e]
    exact getD_snoc_eq
  have zc : (sz.set c (sz.getD c 0 - small.length) ++ [small.length]).getD c 0 = sz.getD c 0 - small.length := by
    rw [getD_snoc_lt (by rw [List.length_set]; exact hcs), getD_lt (by rw [List.length_set]; exact hcs), List.getElem_set_self]
  have ze : ∀ x, x < ms.length → x ≠ c → (sz.set c (sz.getD c 0 - small.length) ++ [small.length]).getD x 0 = sz.getD x 0 := fun x hx hn => by
    rw [getD_snoc_lt (by rw [List.length_set, I.slen]; exact hx), getD_lt (by rw [List.length_set, I.slen]; exact hx), List.getElem_set_ne (fun z => hn z.symm), getD_lt (l := sz) (i := x) (by rw [I.slen]; exact hx)]
  have cases3 : ∀ x, x < (ms1 ++ [small]).length → x = ms.length ∨ (x < ms.length ∧ x = c) ∨ (x < ms.length ∧ x ≠ c) := fun x hx => by
    rw [hl] at hx
    by_cases q : x = ms.length
    · exact .inl q
    · by_cases q2 : x = c
      · exact .inr (.inl ⟨by omega, q2⟩)
      · exact .inr (.inr ⟨by omega, q2⟩)
  refine ⟨by rw [setAll_len, I.clen], ?_, ?_, ?_, ?_, ?_, ?_, ?_, ?_, ?_⟩
  · rw [hl, List.length_append, List.length_set, I.slen]; rfl
  · intro r hr
    rw [P.cls I hr, hl]
    have := I.clt r hr
    split <;> omega
  · intro x hx
    rcases cases3 x hx with e | ⟨h1, e⟩ | ⟨h1, e⟩
    · rw [e, gn]; exact P.nd
    · rw [ge x h1, e]; exact P.mnd
    · rw [ge x h1, P.els x e]; exact I.mnd x h1
  · intro x hx
    rcases cases3 x hx with e | ⟨h1, e⟩ | ⟨h1, e⟩
    · rw [e, gn]; exact fun r hr => (P.inn r hr).1
    · rw [ge x h1, e]; exact P.mlt
    · rw [ge x h1, P.els x e]; exact I.mlt x h1
  · intro r hr
    rw [P.cls I hr]
    by_cases q : r ∈ small
    · rw [if_pos q, gn]; exact q
    · rw [if_neg q, ge _ (I.clt r hr)]
      by_cases e : cl.getD r 0 = c
      · rw [e]; exact P.mem r hr e q
      · rw [P.els _ e]; exact I.mem r hr
  · intro x hx
    rw [cnts x (by rw [hl] at hx; exact hx)]
    rcases cases3 x hx with e | ⟨h1, e⟩ | ⟨h1, e⟩
    · rw [if_pos e, e]; exact zn
    · rw [if_neg (by omega), if_pos e, e]; exact zc
    · rw [if_neg (by omega), if_neg e, ze x h1 e]; exact I.siz x h1
  · intro x hx
    rcases cases3 x hx with e | ⟨h1, e⟩ | ⟨h1, e⟩
    · rw [e, zn]; exact List.length_pos_iff.mpr P.ne
    · rw [e, zc]; have := P.lt; omega
    · rw [ze x h1 e]; exact I.pos x h1
  · intro p q hp hq e
    exact I.ans p q hp hq ((P.same I hp hq).mp e).1
  · intro p q hp hq e
    have e1 := I.eqv p q hp hq e
    exact (P.same I hp hq).mpr ⟨e1, fun h => sat p q hp hq h (by rw [← e1]; exact h) e⟩
/-- what waits tells all that is parted, also behind a split -/
theorem Sep.split {rem rem' : Nat → Nat → Prop} {Y : Nat → Prop} (o : Ok d ways) (hR : R = ways.length) (I : HInv dA d R ways told cl ms sz) (S : Sep d R ways cl wt rem Y) (hw : ∀ x ∈ wt, x < ms.length) {c k : Nat} (hc : c < ms.length) {hit small : List Nat} {ms1 : List (List Nat)}
    (P : Part (R := R) (cl := cl) (ms := ms) (sz := sz) c hit small ms1) (hY : ∀ r, r < R → cl.getD r 0 = c → (r ∈ hit ↔ Y (dl ways r k)))
    (hrem : ∀ a x, rem a x → (a = k ∧ x = c) ∨ (rem' a x ∧ (x = c → rem' a ms.length))) : Sep d R ways (setAll cl small ms.length) (wt ++ [ms.length]) rem' Y := by
  intro p q a hp hq ha e hne
  obtain ⟨e1, e2⟩ := (P.same I hp hq).mp e
  have hdp : dl ways p a < R := by rw [hR]; exact o.dl_lt (by omega)
  have hdq : dl ways q a < R := by rw [hR]; exact o.dl_lt (by omega)
  have new : ms.length ∈ wt ++ [ms.length] := List.mem_append_right _ (List.mem_cons_self ..)
  by_cases h : cl.getD (dl ways p a) 0 = cl.getD (dl ways q a) 0
  · -- the targets' class was split
    have hn : ¬ (cl.getD (dl ways p a) 0 = c → (dl ways p a ∈ hit ↔ dl ways q a ∈ hit)) := fun z => hne ((P.same I hdp hdq).mpr ⟨h, z⟩)
    refine .inl ⟨ms.length, new, fun z => hne ?_⟩
    rw [P.cls I hdp, P.cls I hdq] at z ⊢
    have l1 := I.clt _ hdp
    have l2 := I.clt _ hdq
    by_cases s1 : dl ways p a ∈ small <;> by_cases s2 : dl ways q a ∈ small
    · rw [if_pos s1, if_pos s2]
    · rw [if_pos s1, if_neg s2] at z; have := z.mp rfl; omega
    · rw [if_neg s1, if_pos s2] at z; have := z.mpr rfl; omega
    · rw [if_neg s1, if_neg s2]; exact h
  · rcases S p q a hp hq ha e1 h with ⟨x, hx, hs⟩ | ⟨hr, hs⟩
    · left
      have hxl := hw x hx
      by_cases ex : x = c
      · subst ex
        -- one of the two lies in the class that was split
        have key : ∀ u v, u < R → v < R → cl.getD u 0 = x → cl.getD v 0 ≠ x → ∃ y ∈ wt ++ [ms.length], ((setAll cl small ms.length).getD u 0 = y) ∧ (setAll cl small ms.length).getD v 0 ≠ y := by
          intro u v hu hv q1 q2
          have nv : v ∉ small := fun z => q2 (P.inn v z).2
          by_cases s1 : u ∈ small
          · refine ⟨ms.length, new, ?_, ?_⟩
            · rw [P.cls I hu, if_pos s1]
            · rw [P.cls I hv, if_neg nv]; have := I.clt v hv; omega
          · refine ⟨x, List.mem_append_left _ hx, ?_, ?_⟩
            · rw [P.cls I hu, if_neg s1]; exact q1
            · rw [P.cls I hv, if_neg nv]; exact q2
        by_cases q1 : cl.getD (dl ways p a) 0 = x
        · have q2 : cl.getD (dl ways q a) 0 ≠ x := fun z => h (q1.trans z.symm)
          obtain ⟨y, hy, y1, y2⟩ := key _ _ hdp hdq q1 q2
          exact ⟨y, hy, fun z => y2 (z.mp y1)⟩
        · have q2 : cl.getD (dl ways q a) 0 = x := by
            by_cases q2 : cl.getD (dl ways q a) 0 = x
            · exact q2
            · exact absurd ⟨fun z => absurd z q1, fun z => absurd z q2⟩ hs
          obtain ⟨y, hy, y1, y2⟩ := key _ _ hdq hdp q2 q1
          exact ⟨y, hy, fun z => y2 (z.mpr y1)⟩
      · have tr : ∀ u, u < R → ((setAll cl small ms.length).getD u 0 = x ↔ cl.getD u 0 = x) := fun u hu => by
          rw [P.cls I hu]
          by_cases s1 : u ∈ small
          · rw [if_pos s1, (P.inn u s1).2]
            exact ⟨fun z => by omega, fun z => absurd z.symm ex⟩
          · rw [if_neg s1]
        refine ⟨x, List.mem_append_left _ hx, fun z => hs ?_⟩
        rw [tr _ hdp, tr _ hdq] at z
        exact z
    · rcases hrem a _ hr with ⟨ea, ec⟩ | ⟨hr', hr''⟩
      · exfalso
        subst ea
        refine hs ?_
        rw [← hY p hp ec, ← hY q hq (by rw [← e1]; exact ec)]
        exact e2 ec
      · refine .inr ⟨?_, hs⟩
        rw [P.cls I hp]
        split
        · rename_i s1
          exact hr'' (P.inn p s1).2
        · exact hr'
/-- what is still to come may shrink where it parts nothing -/
theorem Sep.mono {rem rem' : Nat → Nat → Prop} {Y : Nat → Prop} (S : Sep d R ways cl wt rem Y)
    (h : ∀ p q a, p < R → q < R → cl.getD p 0 = cl.getD q 0 → rem a (cl.getD p 0) → ¬ (Y (dl ways p a) ↔ Y (dl ways q a)) → rem' a (cl.getD p 0)) : Sep d R ways cl wt rem' Y := by
  intro p q a hp hq ha e hne
  rcases S p q a hp hq ha e hne with z | ⟨z1, z2⟩
  · exact .inl z
  · exact .inr ⟨h p q a hp hq e z1 z2, z2⟩
/-- nothing waits: the classes are alike -/
theorem HInv.alike {Y : Nat → Prop} (hR : R = ways.length) (o : Ok d ways) (I : HInv dA d R ways told cl ms sz) (S : Sep d R ways cl [] (fun _ _ => False) Y) : Alike dA d ways told cl := by
  subst hR
  refine ⟨I.clen, I.ans, fun p q hp hq e a ha => ?_, I.eqv⟩
  by_cases h : cl.getD (dl ways p a) 0 = cl.getD (dl ways q a) 0
  · exact h
  · rcases S p q a hp hq ha e h with ⟨x, hx, _⟩ | ⟨z, _⟩
    · cases hx
    · exact z.elim
/-- rooms that no text parts have such targets -/
theorem Eqv.step {p q a : Nat} (e : Eqv dA d ways told p q) (ha : a < d) : Eqv dA d ways told (dl ways p a) (dl ways q a) := fun w hw => e (a :: w) fun b hb => by
  rcases List.mem_cons.mp hb with h | h
  · rw [h]; exact ha
  · exact hw b h
/-- not more classes than rooms -/
theorem HInv.few (I : HInv dA d R ways told cl ms sz) : ms.length ≤ R := by
  have h : ∀ c, c < ms.length → ∃ r, r < R ∧ cl.getD r 0 = c := fun c hc => by
    have h1 := I.pos c hc
    rw [I.siz c hc] at h1
    obtain ⟨r, hr⟩ := List.exists_mem_of_length_pos h1
    exact ⟨r, cnt_mem.mp hr⟩
  have h2 := len_of_mem (a := List.range ms.length) (b := (List.range R).map fun r => cl.getD r 0) List.nodup_range fun c hc => by
    obtain ⟨r, h3, h4⟩ := h c (List.mem_range.mp hc)
    exact List.mem_map.mpr ⟨r, List.mem_range.mpr h3, h4⟩
  rw [List.length_range, List.length_map, List.length_range] at h2
  exact h2
end
end Mch

namespace Own
open PySem PySem.Spec PyProof.Rows L2 SX RZ
/-! ### whole numbers as values -/
abbrev iv (n : Nat) : V := .int (n : Int)
abbrev ivs (l : List Nat) : List V := l.map iv
theorem ivs_len {l : List Nat} : (ivs l).length = l.length := List.length_map ..
theorem ivs_get {l : List Nat} {i : Nat} {y : V} (h : (ivs l)[i]? = some y) : ∃ n, l[i]? = some n ∧ y = iv n := by
  rw [List.getElem?_map] at h
  cases e : l[i]? with
  | none => rw [e] at h; cases h
  | some c => rw [e] at h; exact ⟨c, rfl, (Option.some.inj h).symm⟩
theorem ivs_at {l : List Nat} {i n : Nat} (h : l[i]? = some n) : (ivs l)[i]? = some (iv n) := by
  rw [List.getElem?_map, h]; rfl
theorem get_of_lt {α : Type} {l : List α} {i : Nat} {d : α} (h : i < l.length) : l[i]? = some (l.getD i d) := by
  rw [Mch.getD_lt h]; exact List.getElem?_eq_getElem h
/-! ### subscripts of lists and tuples, the written part named -/
section
variable {X : Cx} {K : PySem.W.Frag}
theorem ixL (h : X.K = K) : IxR X (rIxL K) := by subst h; exact ix_list
theorem ixT (h : X.K = K) : IxR X (rIxT K) := by subst h; exact ix_tup
end
section
variable {K : PySem.W.Frag} {H : Hp} {a : Addr} {xs : List V} {i : Nat} {v : V} {Q : VK}
theorem ixL_at (h : SqL K H a xs) (e : xs[i]? = some v) (q : Q v H) : rIxL K (.ref a) (iv i) H Q := ⟨a, xs, i, v, rfl, rfl, h, atI_nat e, q⟩
theorem sqL (h : H a = some (.lst xs)) : SqL K H a xs := .inl (.inl h)
theorem sqT (h : H a = some (.tup xs)) : SqT K H a xs := .inl (.inl h)
end
/-! ### comprehensions that only make -/
section
variable {J : It} {n : Nat} {G : Hp → Prop} {Y : Nat → Hp → V → Hp → Prop} {g : TG} {tt : TT} {te : TE} {vs : List Nat} {σ : L2.St} {H1 : Hp} {D : Addr} {Qd : Hp → Prop}
/-- those that pass, as they are -/
theorem lc_pick {xs : List V} (w : Walk J xs.length G (YAt xs)) (nD : H1 D = none) (hn : xs.length ≤ 4000) (hG : ∀ H', Same H1 H' → G H') (f : V → Bool)
    (hs : ∀ (i : Nat) x H' (k : VK) (N : Hp → Prop), xs[i]? = some x → Same H1 H' → (f x = true → k x H') → (f x = false → N H') →
      g x (wipe σ vs) H' fun σ2 H2 => wipe σ2 vs = wipe σ vs ∧ tt σ2 H2 fun b H3 => if b = true then te σ2 H3 k else N H3)
    (hd : ∀ H', Same H1 H' → H' D = some (.lst (xs.filter f)) → Qd H') :
    ∃ W : Nat → Nat → Hp → Prop, (∃ m, W 0 m (upd H1 D (.lst []))) ∧ ∀ i m H, W i m H →
      (J.stop i H ∧ Qd H) ∨ (J.go i H ∧ ∃ Nx : Hp → Prop, (∀ H', Nx H' → ∃ m', m' < m ∧ W (i + 1) m' H') ∧ ∀ x H', J.yld i H x H' → g x (wipe σ vs) H' fun σ2 H2 => wipe σ2 vs = wipe σ vs ∧ tt σ2 H2 fun b H3 =>
        if b = true then te σ2 H3 fun y H4 => ∃ acc, H4 D = some (.lst acc) ∧ acc.length < sizeLine ∧ Nx (upd H4 D (.lst (acc ++ [y]))) else Nx H3) := by
  refine lc_it w (fun i H' => Same H1 H' ∧ H' D = some (.lst ((xs.take i).filter f))) ⟨same_new nD, upd_same⟩ (fun i H' _ h => hG H' h.1) ?_ ?_
  · rintro i x H' H'' hi ⟨s1, hD⟩ ⟨rfl, hx⟩
    have et : xs.take (i + 1) = xs.take i ++ [x] := by
      rw [List.take_add_one, hx]; rfl
    have hll : ((xs.take i).filter f).length < sizeLine := small1000W (by
      have := List.length_filter_le f (xs.take i)
      rw [List.length_take] at this
      omega)
    refine hs i x H'' _ _ hx s1 (fun hf => ⟨_, hD, hll, same_put s1 nD, ?_⟩) (fun hf => ⟨s1, ?_⟩)
    · rw [upd_same, et, List.filter_append]
      simp [hf]
    · rw [hD, et, List.filter_append]
      simp [hf]
  · rintro H' ⟨s1, hD⟩
    rw [List.take_length] at hD
    exact hd H' s1 hD
end
/-! ### a test that changes nothing -/
theorem if_pick {t : TT} {T E : TS} {D : Ends} {σ : L2.St} {H : Hp} (cond : Prop) (fin1 : cond → T D σ H) (fin2 : ¬ cond → E D σ H) (h : ∀ k : Bool → Hp → Prop, (cond → k true H) → (¬ cond → k false H) → t σ H k) : tIfS t T E D σ H :=
  h _ (fun c => fin1 c) (fun c => fin2 c)
/-! ### set(list of whole numbers); k not in it -/
section
variable {X : Cx} {K : PySem.W.Frag}
end
/-! ### dicts by any kind of key -/
section
variable {P : Program} {w : World} {κ : Type} [DecidableEq κ]
end
section
variable {X : Cx} {κ : Type} [DecidableEq κ] {P : Program} {w : World} {knd : PySem.KeyKind P w κ} {enc : κ → V} {pins : List (Addr × Obj)} {σ : L2.St} {H : Hp} {s : Shared} {a : Addr} {kvs : List (κ × V)}
end
end Own

namespace Mch
/-! ### the classes at the beginning -/
section
variable {κ : Type} [DecidableEq κ] {dA : κ} {d : Nat} {ways : List (List Nat)} {ks : List κ}
end
end Mch

namespace Mch
section
variable {α β : Type} [DecidableEq α] [DecidableEq β] {f : α → β} (hf : ∀ a b, f a = f b → a = b)
include hf
end
end Mch

namespace Mch
/-! ### counts of texts -/
end Mch

namespace Mch
/-! ### rooms numbered by the texts that lead to them; machines that are least are equal if their answers are -/
/-- behind a room named for the first time all lesser ones are known; each room is named by an earlier one -/
structure Canon (d : Nat) (W : List (List Nat)) : Prop where
  low : ∀ c p y, c < W.length → p < d → y < dl W c p → y = 0 ∨ ∃ c' p', (c' < c ∨ (c' = c ∧ p' < p)) ∧ p' < d ∧ dl W c' p' = y
  src : ∀ j, 0 < j → j < W.length → ∃ i p, i < j ∧ p < d ∧ dl W i p = j
def Redu {A : Type} (dA : A) (d : Nat) (W : List (List Nat)) (T : List A) : Prop := ∀ r q, r < W.length → q < W.length → (∀ w, (∀ a ∈ w, a < d) → T.getD (wk W r w) dA = T.getD (wk W q w) dA) → r = q
section
variable {A : Type} {dA : A} {d : Nat} {W W' : List (List Nat)} {T T' : List A}
/-- rooms that one text leads to -/
def Rl (d : Nat) (W W' : List (List Nat)) (r s : Nat) : Prop := ∃ w, (∀ a ∈ w, a < d) ∧ wk W 0 w = r ∧ wk W' 0 w = s
theorem app_lt {d : Nat} {u v : List Nat} (h1 : ∀ a ∈ u, a < d) (h2 : ∀ a ∈ v, a < d) : ∀ a ∈ u ++ v, a < d := fun a ha => by
  rcases List.mem_append.mp ha with z | z
  · exact h1 a z
  · exact h2 a z
theorem Rl.fut {r s : Nat} (same : ∀ w, (∀ a ∈ w, a < d) → T.getD (wk W 0 w) dA = T'.getD (wk W' 0 w) dA) (h : Rl d W W' r s) : ∀ v, (∀ a ∈ v, a < d) → T.getD (wk W r v) dA = T'.getD (wk W' s v) dA := fun v hv => by
  obtain ⟨w, w1, w2, w3⟩ := h
  have := same (w ++ v) (app_lt w1 hv)
  rw [wk_app, wk_app, w2, w3] at this
  exact this
theorem Rl.fn {r s s' : Nat} (o' : Ok d W') (red' : Redu dA d W' T') (same : ∀ w, (∀ a ∈ w, a < d) → T.getD (wk W 0 w) dA = T'.getD (wk W' 0 w) dA) (h : Rl d W W' r s) (h' : Rl d W W' r s') : s = s' := by
  have f1 := h.fut same
  have f2 := h'.fut same
  obtain ⟨w, _, _, w3⟩ := h
  obtain ⟨w', _, _, w3'⟩ := h'
  exact red' s s' (by rw [← w3]; exact o'.wk_lt o'.pos) (by rw [← w3']; exact o'.wk_lt o'.pos) fun v hv => (f1 v hv).symm.trans (f2 v hv)
theorem Rl.inj {r r' s : Nat} (o : Ok d W) (red : Redu dA d W T) (same : ∀ w, (∀ a ∈ w, a < d) → T.getD (wk W 0 w) dA = T'.getD (wk W' 0 w) dA) (h : Rl d W W' r s) (h' : Rl d W W' r' s) : r = r' := by
  have f1 := h.fut same
  have f2 := h'.fut same
  obtain ⟨w, _, w2, _⟩ := h
  obtain ⟨w', _, w2', _⟩ := h'
  exact red r r' (by rw [← w2]; exact o.wk_lt o.pos) (by rw [← w2']; exact o.wk_lt o.pos) fun v hv => (f1 v hv).trans (f2 v hv).symm
theorem Rl.step {r s p : Nat} (h : Rl d W W' r s) (hp : p < d) : Rl d W W' (dl W r p) (dl W' s p) := by
  obtain ⟨w, w1, w2, w3⟩ := h
  refine ⟨w ++ [p], app_lt w1 (fun a ha => by rw [List.mem_singleton.mp ha]; exact hp), ?_, ?_⟩
  · rw [wk_app, w2]; rfl
  · rw [wk_app, w3]; rfl
/-- each room goes with the room of the same number -/
theorem Rl.self (o : Ok d W) (o' : Ok d W') (c : Canon d W) (c' : Canon d W') (red : Redu dA d W T) (red' : Redu dA d W' T') (same : ∀ w, (∀ a ∈ w, a < d) → T.getD (wk W 0 w) dA = T'.getD (wk W' 0 w) dA) :
    ∀ k, k < W.length → Rl d W W' k k := by
  intro k
  induction k using Nat.strongRecOn with
  | ind k ih =>
    intro hk
    by_cases h0 : k = 0
    · subst h0
      exact ⟨[], fun _ h => (List.not_mem_nil h).elim, rfl, rfl⟩
    · have aux : ∀ N i p, i * d + p = N → i < k → p < d → dl W i p = k → Rl d W W' k k := by
        intro N
        induction N using Nat.strongRecOn with
        | ind N ihN =>
          intro i p hN hi hp e
          have hs := (ih i hi (by omega)).step hp
          rw [e] at hs
          -- the room that goes with k
          by_cases hm : dl W' i p = k
          · rw [hm] at hs; exact hs
          · have il' : i < W'.length := by
              obtain ⟨w, _, _, w3⟩ := ih i hi (by omega)
              rw [← w3]
              exact o'.wk_lt o'.pos
            have ge : k < dl W' i p := by
              by_cases z : dl W' i p < k
              · have h2 := ih (dl W' i p) z (by omega)
                exact absurd (Rl.inj o red same h2 hs) (by omega)
              · omega
            rcases c'.low i p k il' hp ge with z | ⟨i', p', z1, z2, z3⟩
            · exact absurd z h0
            · have hi' : i' < k := by rcases z1 with z | z <;> omega
              have hs' := (ih i' hi' (by omega)).step z2
              rw [z3] at hs'
              have lt1 : i' * d + p' < i * d + p := by
                rcases z1 with z | ⟨z, z'⟩
                · have : (i' + 1) * d ≤ i * d := Nat.mul_le_mul_right d z
                  rw [Nat.add_mul, Nat.one_mul] at this
                  omega
                · rw [z]; omega
              by_cases u1 : dl W i' p' < k
              · have h2 := ih _ u1 (by omega)
                have := Rl.fn o' red' same h2 hs'
                omega
              · by_cases u2 : dl W i' p' = k
                · rw [u2] at hs'; exact hs'
                · rcases c.low i' p' k (by omega) z2 (by omega) with y | ⟨i2, p2, y1, y2, y3⟩
                  · exact absurd y h0
                  · have hi2 : i2 < k := by rcases y1 with z | z <;> omega
                    have lt2 : i2 * d + p2 < i' * d + p' := by
                      rcases y1 with z | ⟨z, z'⟩
                      · have : (i2 + 1) * d ≤ i' * d := Nat.mul_le_mul_right d z
                        rw [Nat.add_mul, Nat.one_mul] at this
                        omega
                      · rw [z]; omega
                    exact ihN (i2 * d + p2) (by omega) i2 p2 rfl hi2 y2 y3
      obtain ⟨i, p, h1, h2, h3⟩ := c.src k (by omega) hk
      exact aux _ i p rfl h1 h2 h3
end
/-! ### the least machine is so -/
section
variable {A : Type} {dA : A} {d : Nat} {ways : List (List Nat)} {told : List A} {l : List Nat}
end
section
variable {d : Nat} {rows : List (List Nat)} {order : List Nat}
end
end Mch

namespace Mch
/-! ### short texts tell machines apart (Moore) -/
section
variable {A : Type}
theorem countP_eq {α : Type} {p q : α → Bool} : ∀ {l : List α}, (∀ x ∈ l, p x = true → q x = true) → l.countP p ≤ l.countP q ∧ (l.countP q ≤ l.countP p → ∀ x ∈ l, q x = true → p x = true)
  | [], _ => ⟨Nat.le_refl _, fun _ x h => (List.not_mem_nil h).elim⟩
  | y :: l, h => by
    obtain ⟨i1, i2⟩ := countP_eq (l := l) fun x hx => h x (List.mem_cons_of_mem _ hx)
    have hy := h y (List.mem_cons_self ..)
    rw [List.countP_cons, List.countP_cons]
    cases hp : p y <;> cases hq : q y
    · refine ⟨by simpa using i1, fun e x hx qx => ?_⟩
      rcases List.mem_cons.mp hx with z | z
      · rw [z, hq] at qx; cases qx
      · exact i2 (by simpa using e) x z qx
    · refine ⟨by simp; omega, fun e => ?_⟩
      simp at e
      omega
    · rw [hp, hq] at hy
      exact absurd (hy rfl) (by decide)
    · refine ⟨by simpa using i1, fun e x hx qx => ?_⟩
      rcases List.mem_cons.mp hx with z | z
      · rw [z]; exact hp
      · exact i2 (by simpa using e) x z qx
def go (f : Nat → Nat → Nat) : Nat → List Nat → Nat
  | r, [] => r
  | r, p :: w => go f (f r p) w
/-- alike for texts of at most k letters -/
def Ek (d : Nat) (f : Nat → Nat → Nat) (out : Nat → A) (k r q : Nat) : Prop := ∀ w, w.length ≤ k → (∀ a ∈ w, a < d) → out (go f r w) = out (go f q w)
variable {d N : Nat} {f : Nat → Nat → Nat} {out : Nat → A}
theorem Ek.symm {k r q : Nat} (h : Ek d f out k r q) : Ek d f out k q r := fun w a b => (h w a b).symm
theorem Ek.trans {k r q s : Nat} (h : Ek d f out k r q) (h' : Ek d f out k q s) : Ek d f out k r s := fun w a b => (h w a b).trans (h' w a b)
theorem Ek.refl {k r : Nat} : Ek d f out k r r := fun _ _ _ => rfl
theorem Ek.down {k j r q : Nat} (h : Ek d f out k r q) (hj : j ≤ k) : Ek d f out j r q := fun w a b => h w (by omega) b
theorem Ek.step {k r q p : Nat} (h : Ek d f out (k + 1) r q) (hp : p < d) : Ek d f out k (f r p) (f q p) := fun w a b =>
  h (p :: w) (by rw [List.length_cons]; omega) fun x hx => by
    rcases List.mem_cons.mp hx with z | z
    · rw [z]; exact hp
    · exact b x z
/-- what does not grow finer once never does -/
theorem Ek.stable {k : Nat} (hf : ∀ r p, r < N → f r p < N) (st : ∀ r q, r < N → q < N → Ek d f out k r q → Ek d f out (k + 1) r q) :
    ∀ w r q, r < N → q < N → (∀ a ∈ w, a < d) → Ek d f out k r q → out (go f r w) = out (go f q w)
  | [], r, q, _, _, _, h => h [] (Nat.zero_le _) (fun _ h => (List.not_mem_nil h).elim)
  | p :: w, r, q, hr, hq, hw, h => Ek.stable hf st w (f r p) (f q p) (hf r p hr) (hf q p hq) (fun a ha => hw a (List.mem_cons_of_mem _ ha)) ((st r q hr hq h).step (hw p (List.mem_cons_self ..)))
open Classical in
noncomputable def isF (d : Nat) (f : Nat → Nat → Nat) (out : Nat → A) (k r : Nat) : Bool := decide (∀ q, q < r → ¬ Ek d f out k r q)
open Classical in
theorem isF_iff {k r : Nat} : isF d f out k r = true ↔ ∀ q, q < r → ¬ Ek d f out k r q := by
  unfold isF
  exact decide_eq_true_iff
theorem isF_up {k r : Nat} (h : isF d f out k r = true) : isF d f out (k + 1) r = true := isF_iff.mpr fun q hq e => isF_iff.mp h q hq (e.down (by omega))
theorem to_first {k : Nat} : ∀ r, ∃ r', r' ≤ r ∧ Ek d f out k r r' ∧ isF d f out k r' = true := by
  intro r
  induction r using Nat.strongRecOn with
  | ind r ih =>
    by_cases h : isF d f out k r = true
    · exact ⟨r, Nat.le_refl _, Ek.refl, h⟩
    · have : ∃ q, q < r ∧ Ek d f out k r q := by
        apply Classical.byContradiction
        intro z
        exact h (isF_iff.mpr fun q hq e => z ⟨q, hq, e⟩)
      obtain ⟨q, q1, q2⟩ := this
      obtain ⟨r', a, b, c⟩ := ih q q1
      exact ⟨r', by omega, q2.trans b, c⟩
theorem isF_eq {k r q : Nat} (hr : isF d f out k r = true) (hq : isF d f out k q = true) (h : Ek d f out k r q) : r = q := by
  by_cases z : q < r
  · exact absurd h (isF_iff.mp hr q z)
  · by_cases z' : r < q
    · exact absurd h.symm (isF_iff.mp hq r z')
    · omega
noncomputable def cls (N d : Nat) (f : Nat → Nat → Nat) (out : Nat → A) (k : Nat) : Nat := (List.range N).countP (isF d f out k)
theorem cls_step (k : Nat) : cls N d f out k < cls N d f out (k + 1) ∨ ∀ r q, r < N → q < N → Ek d f out k r q → Ek d f out (k + 1) r q := by
  by_cases h : cls N d f out k < cls N d f out (k + 1)
  · exact .inl h
  · right
    have hh := (countP_eq (l := List.range N) (p := isF d f out k) (q := isF d f out (k + 1)) fun x _ hx => isF_up hx).2 (by unfold cls at h; omega)
    intro r q hr hq e
    obtain ⟨r', r1, r2, r3⟩ := to_first (d := d) (f := f) (out := out) (k := k + 1) r
    obtain ⟨q', q1, q2, q3⟩ := to_first (d := d) (f := f) (out := out) (k := k + 1) q
    have fr := hh r' (List.mem_range.mpr (by omega)) r3
    have fq := hh q' (List.mem_range.mpr (by omega)) q3
    have := isF_eq fr fq (((r2.down (Nat.le_succ k)).symm.trans e).trans (q2.down (Nat.le_succ k)))
    rw [this] at r2
    exact r2.trans q2.symm
theorem cls_all {k : Nat} (h : N ≤ cls N d f out k) {r q : Nat} (hr : r < N) (hq : q < N) (e : Ek d f out k r q) : r = q := by
  have hh := (countP_eq (l := List.range N) (p := isF d f out k) (q := fun _ => true) fun _ _ _ => rfl).2 (by
    rw [List.countP_true, List.length_range]
    exact h)
  exact isF_eq (hh r (List.mem_range.mpr hr) rfl) (hh q (List.mem_range.mpr hq) rfl) e
theorem moore_aux (hf : ∀ r p, r < N → f r p < N) : ∀ k, (∀ w r q, r < N → q < N → (∀ a ∈ w, a < d) → Ek d f out k r q → out (go f r w) = out (go f q w)) ∨ k + 1 ≤ cls N d f out k ∨ N = 0
  | 0 => by
    by_cases z : N = 0
    · exact .inr (.inr z)
    · refine .inr (.inl ?_)
      unfold cls
      refine List.countP_pos_iff.mpr ⟨0, List.mem_range.mpr (by omega), isF_iff.mpr fun q hq => absurd hq (Nat.not_lt_zero _)⟩
  | k + 1 => by
    rcases moore_aux hf k with h | h | h
    · exact .inl fun w r q hr hq hw e => h w r q hr hq hw (e.down (Nat.le_succ k))
    · rcases cls_step (N := N) (d := d) (f := f) (out := out) k with s | s
      · exact .inr (.inl (by omega))
      · refine .inl fun w r q hr hq hw e => Ek.stable hf s w r q hr hq hw (e.down (Nat.le_succ k))
    · exact .inr (.inr h)
/-- rooms that texts of fewer letters than there are rooms do not tell apart, no text does -/
theorem moore (hf : ∀ r p, r < N → f r p < N) {k : Nat} (hk : N ≤ k + 1) : ∀ w r q, r < N → q < N → (∀ a ∈ w, a < d) → Ek d f out k r q → out (go f r w) = out (go f q w) := by
  intro w r q hr hq hw e
  rcases moore_aux (out := out) (d := d) hf k with h | h | h
  · exact h w r q hr hq hw e
  · rw [cls_all (by omega) hr hq e]
  · omega
end
section
variable {A : Type} {dA : A} {d : Nat} {R R' : List (List Nat)} {S S' : List A}
def two (R R' : List (List Nat)) (r p : Nat) : Nat := if r < R.length then dl R r p else R.length + dl R' (r - R.length) p
def twoT (dA : A) (n : Nat) (S S' : List A) (r : Nat) : A := if r < n then S.getD r dA else S'.getD (r - n) dA
theorem two_fst (o : Ok d R) : ∀ (w : List Nat) (r : Nat), r < R.length → go (two R R') r w = wk R r w
  | [], _, _ => rfl
  | p :: w, r, h => by
    show go (two R R') (two R R' r p) w = wk R (dl R r p) w
    rw [show two R R' r p = dl R r p from if_pos h]
    exact two_fst o w _ (o.dl_lt h)
theorem two_snd : ∀ (w : List Nat) (r : Nat), go (two R R') (R.length + r) w = R.length + wk R' r w
  | [], _ => rfl
  | p :: w, r => by
    show go (two R R') (two R R' (R.length + r) p) w = R.length + wk R' (dl R' r p) w
    rw [show two R R' (R.length + r) p = R.length + dl R' r p by
      unfold two
      rw [if_neg (by omega), Nat.add_sub_cancel_left]]
    exact two_snd w _
/-- two machines that texts of at most k letters do not tell apart answer every text alike -/
theorem short (o : Ok d R) (o' : Ok d R') {k : Nat} (hk : R.length + R'.length ≤ k + 1)
    (h : ∀ w, w.length ≤ k → (∀ a ∈ w, a < d) → S.getD (wk R 0 w) dA = S'.getD (wk R' 0 w) dA) :
    ∀ w, (∀ a ∈ w, a < d) → S.getD (wk R 0 w) dA = S'.getD (wk R' 0 w) dA := by
  have e1 : ∀ w, twoT dA R.length S S' (go (two R R') 0 w) = S.getD (wk R 0 w) dA := fun w => by
    rw [two_fst o w 0 o.pos]
    exact if_pos (o.wk_lt o.pos)
  have e2 : ∀ w, twoT dA R.length S S' (go (two R R') (R.length + 0) w) = S'.getD (wk R' 0 w) dA := fun w => by
    rw [two_snd w 0]
    unfold twoT
    rw [if_neg (by omega), Nat.add_sub_cancel_left]
  have hp := o.pos
  have hp' := o'.pos
  intro w hw
  rw [← e1 w, ← e2 w]
  refine moore (N := R.length + R'.length) (d := d) (fun r p hr => ?_) hk w 0 (R.length + 0) (by omega) (by omega) hw fun v hv hv' => ?_
  · unfold two
    split
    · rename_i hl
      have := o.dl_lt (p := p) hl
      omega
    · have := o'.dl_lt (r := r - R.length) (p := p) (by omega)
      omega
  · rw [e1 v, e2 v]
    exact h v hv hv'
end
end Mch

namespace Mch
/-! ### a machine looked at from outside: its rooms in order, its rooms apart -/
/-- the numbers 0, 1, .. as far as they go -/
structure Dense (m : List Nat) (N : Nat) : Prop where
  lt : ∀ x ∈ m, x < N
  on : ∀ y, y < N → y ∈ m
section
variable {κ : Type} [DecidableEq κ]
theorem nubG_mem {l : List κ} {x : κ} : x ∈ nubA [] l ↔ x ∈ l := by
  rw [nubA_mem]
  simp
theorem numbG_at {l : List κ} {i : Nat} {x : κ} (h : l[i]? = some x) : (numb l)[i]? = some ((nubA [] l).idxOf x) := by
  unfold numb
  rw [List.getElem?_map, h]
  rfl
theorem numb_dense {l : List κ} : Dense (numb l) (nubA [] l).length := by
  refine ⟨fun x hx => ?_, fun y hy => ?_⟩
  · obtain ⟨z, hz, e⟩ := List.mem_map.mp hx
    rw [← e]
    exact idxOf_lt (nubG_mem.mpr hz)
  · have hm : (nubA [] l)[y] ∈ l := nubG_mem.mp (List.getElem_mem hy)
    refine List.mem_map.mpr ⟨_, hm, ?_⟩
    exact idxOf_of_get (nubA_nodup List.nodup_nil) (List.getElem?_eq_getElem hy)
theorem numb_eq {l : List κ} {i j : Nat} {x y : κ} (hi : l[i]? = some x) (hj : l[j]? = some y) : (numb l)[i]? = (numb l)[j]? ↔ x = y := by
  rw [numbG_at hi, numbG_at hj]
  constructor
  · intro e
    have mx := nubG_mem.mpr (List.mem_of_getElem? hi)
    have my := nubG_mem.mpr (List.mem_of_getElem? hj)
    have e' := Option.some.inj e
    have gx := idxOf_get mx
    rw [e', idxOf_get my] at gx
    exact (Option.some.inj gx).symm
  · rintro rfl
    rfl
end
theorem Dense.le {m : List Nat} {N : Nat} (h : Dense m N) : N ≤ m.length := by
  have nd : ((List.range N).map m.idxOf).Nodup := by
    rw [List.nodup_iff_pairwise_ne, List.pairwise_map]
    refine List.Pairwise.imp_of_mem (fun {a b} ha hb ne e => ne ?_) (List.nodup_iff_pairwise_ne.mp List.nodup_range)
    have ga := idxOf_get (h.on a (List.mem_range.mp ha))
    have gb := idxOf_get (h.on b (List.mem_range.mp hb))
    rw [e] at ga
    exact Option.some.inj (ga.symm.trans gb)
  have := nodup_len nd fun x hx => by
    obtain ⟨y, hy, e⟩ := List.mem_map.mp hx
    rw [← e]
    exact idxOf_lt (h.on y (List.mem_range.mp hy))
  simpa using this
/-- a finer numbering has no fewer numbers; with as many it is the same -/
theorem Dense.finer {m m' : List Nat} {N N' : Nat} (h : Dense m N) (h' : Dense m' N') (hl : m'.length = m.length)
    (f : ∀ r q, r < m.length → q < m.length → m'.getD r 0 = m'.getD q 0 → m.getD r 0 = m.getD q 0) :
    N ≤ N' ∧ (N' ≤ N → ∀ r q, r < m.length → q < m.length → m.getD r 0 = m.getD q 0 → m'.getD r 0 = m'.getD q 0) := by
  have hi : ∀ y, y < N → m.idxOf y < m.length ∧ m.getD (m.idxOf y) 0 = y := fun y hy => by
    have l1 := idxOf_lt (h.on y hy)
    exact ⟨l1, by rw [getD_lt l1, List.getElem_idxOf]⟩
  have lt' : ∀ r, r < m.length → m'.getD r 0 < N' := fun r hr => by
    rw [getD_lt (by omega)]
    exact h'.lt _ (List.getElem_mem _)
  have nd : ((List.range N).map fun y => m'.getD (m.idxOf y) 0).Nodup := by
    rw [List.nodup_iff_pairwise_ne, List.pairwise_map]
    refine List.Pairwise.imp_of_mem (fun {a b} ha hb ne e => ne ?_) (List.nodup_iff_pairwise_ne.mp List.nodup_range)
    obtain ⟨a1, a2⟩ := hi a (List.mem_range.mp ha)
    obtain ⟨b1, b2⟩ := hi b (List.mem_range.mp hb)
    have := f _ _ a1 b1 e
    rw [a2, b2] at this
    exact this
  have sub : ∀ x ∈ (List.range N).map fun y => m'.getD (m.idxOf y) 0, x < N' := fun x hx => by
    obtain ⟨y, hy, e⟩ := List.mem_map.mp hx
    rw [← e]
    exact lt' _ (hi y (List.mem_range.mp hy)).1
  have len1 : N ≤ N' := by simpa using nodup_len nd sub
  refine ⟨len1, fun hle => ?_⟩
  have one : ∀ r, r < m.length → m'.getD r 0 = m'.getD (m.idxOf (m.getD r 0)) 0 := fun r hr => by
    by_cases z : m'.getD r 0 ∈ (List.range N).map fun y => m'.getD (m.idxOf y) 0
    · obtain ⟨y, hy, e⟩ := List.mem_map.mp z
      obtain ⟨y1, y2⟩ := hi y (List.mem_range.mp hy)
      have := f r _ hr y1 e.symm
      rw [y2] at this
      rw [this]
      exact e.symm
    · have nd2 : (((List.range N).map fun y => m'.getD (m.idxOf y) 0) ++ [m'.getD r 0]).Nodup := by
        rw [List.nodup_append]
        refine ⟨nd, by simp, fun a ha b hb => ?_⟩
        rw [List.mem_singleton.mp hb]
        exact fun e => z (e ▸ ha)
      have := nodup_len nd2 fun x hx => by
        rcases List.mem_append.mp hx with y | y
        · exact sub x y
        · rw [List.mem_singleton.mp y]
          exact lt' r hr
      simp at this
      omega
  intro r q hr hq e
  rw [one r hr, one q hq, e]
theorem dense_inj {m : List Nat} {N : Nat} (h : Dense m N) (inj : ∀ r q, r < m.length → q < m.length → m.getD r 0 = m.getD q 0 → r = q) : m.length ≤ N := by
  have nd : m.Nodup := by
    rw [List.nodup_iff_pairwise_ne, List.pairwise_iff_getElem]
    intro i j hi hj hij e
    have := inj i j hi hj (by rw [getD_lt hi, getD_lt hj, e])
    omega
  exact nodup_len nd h.lt
/-! ### finer and finer -/
def finerL (W : List (List Nat)) (m : List Nat) : List (List Nat) := W.map fun row => row.map fun t => m.getD t 0
/-- the numbers of a turn, the count before -/
structure Ref {A : Type} (dA : A) (W : List (List Nat)) (T : List A) (i : Nat) (m : List Nat) (c N : Nat) : Prop where
  len : m.length = W.length
  den : Dense m N
  ans : ∀ r q, r < W.length → q < W.length → m.getD r 0 = m.getD q 0 → T.getD r dA = T.getD q dA
  at_ : (c < N ∧ i < N) ∨ (c = N ∧ N = W.length)
section
variable {A : Type} {dA : A} {d : Nat} {W : List (List Nat)} {T : List A}
theorem numb_length {κ : Type} [DecidableEq κ] {l : List κ} : (numb l).length = l.length := List.length_map ..
theorem getD_of_some {α : Type} {l : List α} {i : Nat} {x d : α} (h : l[i]? = some x) : l.getD i d = x := by
  rw [List.getD_eq_getElem?_getD, h]; rfl
theorem some_getD {α : Type} {l : List α} {i : Nat} {d : α} (h : i < l.length) : l[i]? = some (l.getD i d) := by
  rw [getD_lt h, List.getElem?_eq_getElem h]
theorem numb_iff {κ : Type} [DecidableEq κ] {l : List κ} {i j : Nat} {x y : κ} (hi : l[i]? = some x) (hj : l[j]? = some y) : (numb l).getD i 0 = (numb l).getD j 0 ↔ x = y := by
  rw [← numb_eq hi hj, getD_of_some (numbG_at hi), getD_of_some (numbG_at hj), numbG_at hi, numbG_at hj, Option.some.injEq]
theorem Ref.start [DecidableEq A] (hT : T.length = W.length) (hp : 0 < W.length) : Ref dA W T 0 (numb T) 0 (nubA [] T).length := by
  have h0 : 0 < (nubA [] T).length := by
    have : T.getD 0 dA ∈ nubA [] T := nubG_mem.mpr (by rw [getD_lt (by omega)]; exact List.getElem_mem _)
    exact List.length_pos_of_mem this
  refine ⟨by rw [numb_length, hT], numb_dense, fun r q hr hq e => ?_, .inl ⟨h0, h0⟩⟩
  exact (numb_iff (some_getD (by omega)) (some_getD (by omega))).mp e
theorem Ref.skip {i c N : Nat} {m : List Nat} (R : Ref dA W T i m c N) (h : ¬ c < N) : Ref dA W T (i + 1) m c N :=
  ⟨R.len, R.den, R.ans, .inr (R.at_.resolve_left fun z => h z.1)⟩
theorem Ref.step (o : Ok d W) (red : Redu dA d W T) {i c N : Nat} {m : List Nat} (R : Ref dA W T i m c N) (h : c < N) :
    Ref dA W T (i + 1) (numb (m.zip (finerL W m))) N (nubA [] (m.zip (finerL W m))).length := by
  have hl := R.len
  have lf : (finerL W m).length = W.length := List.length_map ..
  have lz : (m.zip (finerL W m)).length = W.length := by
    rw [List.length_zip, lf, hl, Nat.min_self]
  have gz : ∀ r, r < W.length → (m.zip (finerL W m))[r]? = some (m.getD r 0, (rowOf W r).map fun t => m.getD t 0) := fun r hr => by
    rw [List.getElem?_zip_eq_some]
    refine ⟨some_getD (by omega), ?_⟩
    unfold finerL rowOf
    rw [List.getElem?_map, some_getD (d := []) hr]
    rfl
  have iff : ∀ r q, r < W.length → q < W.length → ((numb (m.zip (finerL W m))).getD r 0 = (numb (m.zip (finerL W m))).getD q 0 ↔
      m.getD r 0 = m.getD q 0 ∧ ((rowOf W r).map fun t => m.getD t 0) = (rowOf W q).map fun t => m.getD t 0) := fun r q hr hq => by
    rw [numb_iff (gz r hr) (gz q hq), Prod.mk.injEq]
  have iN : i < N := by
    rcases R.at_ with z | z
    · exact z.2
    · omega
  have dn := numb_dense (l := m.zip (finerL W m))
  obtain ⟨f1, f2⟩ := R.den.finer dn (by rw [numb_length, lz, hl]) fun r q hr hq e => ((iff r q (by omega) (by omega)).mp e).1
  refine ⟨by rw [numb_length, lz], dn, fun r q hr hq e => R.ans r q hr hq ((iff r q hr hq).mp e).1, ?_⟩
  by_cases z : (nubA [] (m.zip (finerL W m))).length ≤ N
  · right
    have st := f2 z
    -- nothing grew finer
    have go : ∀ (w : List Nat) (r q : Nat), r < W.length → q < W.length → (∀ a ∈ w, a < d) → m.getD r 0 = m.getD q 0 → T.getD (wk W r w) dA = T.getD (wk W q w) dA := by
      intro w
      induction w with
      | nil => intro r q hr hq _ e; exact R.ans r q hr hq e
      | cons p w ih =>
        intro r q hr hq hw e
        have hp := hw p (List.mem_cons_self ..)
        have e2 := ((iff r q hr hq).mp (st r q (by omega) (by omega) e)).2
        refine ih (dl W r p) (dl W q p) (o.dl_lt hr) (o.dl_lt hq) (fun a ha => hw a (List.mem_cons_of_mem _ ha)) ?_
        have g : ∀ x, x < W.length → ((rowOf W x).map fun t => m.getD t 0)[p]? = some (m.getD (dl W x p) 0) := fun x hx => by
          have lx := rowOf_len o hx
          rw [List.getElem?_map, some_getD (d := 0) (by omega)]
          rfl
        have := g r hr
        rw [e2, g q hq] at this
        exact (Option.some.inj this).symm
    have inj : ∀ r q, r < m.length → q < m.length → m.getD r 0 = m.getD q 0 → r = q := fun r q hr hq e => red r q (by omega) (by omega) fun w hw => go w r q (by omega) (by omega) hw e
    have n1 := dense_inj R.den inj
    have n2 := R.den.le
    have : N = (nubA [] (m.zip (finerL W m))).length := by omega
    exact ⟨this, by omega⟩
  · left
    omega
theorem Ref.done {c N : Nat} {m : List Nat} (R : Ref dA W T W.length m c N) : N = W.length := by
  have h1 := R.den.le
  have h2 := R.len
  rcases R.at_ with z | z <;> omega
/-! ### rooms in the order of their texts -/
end
end Mch

namespace Own
open PySem PySem.Spec PyProof.Rows L2 SX RZ
/-! ### dicts by keys that are tuples of any depth: what lies at the dict's own place; the keys' tuples are told apart -/
section
variable {P : Program} {w : World} {κ : Type} [DecidableEq κ]
end
section
variable {X : Cx} {κ : Type} [DecidableEq κ] {P : Program} {w : World} {knd : PySem.HeapKind P w κ} {kin : Hp → κ → Addr → Prop} {pins : List (Addr × Obj)} {σ : L2.St} {H : Hp} {s : Shared} {a : Addr} {kvs : List (κ × Addr × V)}
end
/-! ### a number and a tuple of numbers, as a key -/
def nkOf (k : Nat × List Nat) : NestedKey := .tup [.num k.1, .tup (k.2.map fun (n : Nat) => .num n)]
def kinN (H : Hp) (k : NestedKey) (b : Addr) : Prop := ∃ (m : Nat) (l : List Nat) (c : Addr), k = nkOf (m, l) ∧ H b = some (.tup [iv m, .ref c]) ∧ H c = some (.tup (ivs l))
theorem kinN.same {H H' : Hp} {k : NestedKey} {b : Addr} (h : kinN H k b) (s : Same H H') : kinN H' k b := by
  obtain ⟨m, l, c, e, h1, h2⟩ := h
  exact ⟨m, l, c, e, s _ _ h1, s _ _ h2⟩
end Own

namespace Own
open PySem PySem.Spec PyProof.Rows L2 SX RZ
/-! ### answers that are truths or texts, as keys -/
end Own

namespace Own
open PySem PySem.Spec PyProof.Rows L2 SX RZ
/-! ### dicts by any kind of key: displays, get with a default, compared -/
section
variable {X : Cx} {κ : Type} [DecidableEq κ] {P : Program} {w : World} {knd : PySem.KeyKind P w κ} {enc : κ → V} {pins : List (Addr × Obj)} {σ : L2.St} {H : Hp} {s : Shared} {a : Addr} {kvs : List (κ × V)}
end
end Own

namespace Own
open PySem PySem.Spec PyProof.Rows L2 SX RZ
/-! ### calls with keywords alone: of a def, of a classmethod -/
section
variable {X : Cx} {CX : CXT} {k n : Nat} {f C p g : Addr} {mc : Value} {fd : FuncData} {ps ks : List Str} {sp : Sp} {E : XK} {x m : Str} {np pos apos : Pos} {o : Expr} {kws : List Keyword} {ta : TE} {tk : TA} {gg : List Value → List Value → List Value} {gV : List V → List V → List V} {pl : Sem Bool}
end
end Own

namespace Own
open PySem PySem.Spec PyProof.Rows L2 SX
/-! ### a place in a filled row -/
/-! ### lengths and letters along fills -/
/-! ### turns done one after the other -/
/-! ### promises -/
/-- rows of items as they lie; the sizes beside them -/
def LstsN (H : Hp) (qs : List Addr) (l : List (List (List Nat))) : Prop := qs.length = l.length ∧ ∀ (i : Nat) (q : Addr) (its : List (List Nat)), qs[i]? = some q → l[i]? = some its → H q = some (.lst (its.map tx))
theorem LstsN.same {H H' : Hp} {qs : List Addr} {l : List (List (List Nat))} (h : LstsN H qs l) (s : Same H H') : LstsN H' qs l := ⟨h.1, fun i q its h1 h2 => s _ _ (h.2 i q its h1 h2)⟩
theorem Lsts.n {H : Hp} {r : Addr} {qs : List Addr} {l : List (List (List Nat))} (h : Lsts H r qs l) : LstsN H qs l := ⟨h.1, fun i q its h1 h2 => (h.2 i q its h1 h2).2⟩
end Own

/-! Cnd1: conditions, their texts; patterns as they are checked -/
namespace Cnd
inductive Cd where
  | named (n : List Nat)
  | mat (p : List Nat)
  | len (r m : Nat)
  | tpl (k : Nat) (a b x y : List Nat)
  | no (c : Cd)
  | two (w : Bool) (a b : Cd)
  deriving DecidableEq
/-! ### the scan of a pattern -/
def can (gs : List Nat) (b s d : Nat) : Bool :=
  if s = 42 then decide (b ∈ gs) || (decide (b = 46) || decide (b = 41)) else if s = 41 then decide (0 < d) else decide (s ∈ gs) || (decide (s = 46) || (decide (s = 124) || decide (s = 40)))
/-- depth behind a sign -/
def dep (d s : Nat) : Nat := if s = 40 then d + 1 else if s = 41 then d - 1 else d
def scan (gs : List Nat) : Nat → Nat → List Nat → Option (Nat × Nat)
  | b, d, [] => some (b, d)
  | b, d, s :: p => if can gs b s d then scan gs s (dep d s) p else none
theorem scan_app {gs : List Nat} : ∀ {p q : List Nat} {b d : Nat}, scan gs b d (p ++ q) = (scan gs b d p).bind fun z => scan gs z.1 z.2 q
  | [], q, b, d => rfl
  | s :: p, q, b, d => by
    show (if can gs b s d then scan gs s (dep d s) (p ++ q) else none) = (if can gs b s d then scan gs s (dep d s) p else none).bind _
    by_cases h : can gs b s d = true
    · rw [if_pos h, if_pos h, scan_app]
    · rw [if_neg h, if_neg h]; rfl
/-- the place of the parenthesis that closes, counted from i -/
def clo : Nat → List Nat → Nat → Option Nat
  | _, [], _ => none
  | d, s :: p, i => if dep d s = 0 then some i else clo (dep d s) p (i + 1)
/-- a pattern in itself -/
structure Pat (gs p : List Nat) : Prop where
  scn : ∀ b d, ∃ b', scan gs b d p = some (b', d)
  bal : ∀ d q i, clo (d + 1) (p ++ q) i = clo (d + 1) q (i + p.length)
  low : ∀ c ∈ p, c < 128
/-- signs that are no parentheses -/
theorem bal_plain : ∀ {p : List Nat}, (∀ c ∈ p, c ≠ 40 ∧ c ≠ 41) → ∀ d q i, clo (d + 1) (p ++ q) i = clo (d + 1) q (i + p.length)
  | [], _, d, q, i => rfl
  | s :: p, h, d, q, i => by
    obtain ⟨h1, h2⟩ := h s (List.mem_cons_self ..)
    have e : dep (d + 1) s = d + 1 := by unfold dep; rw [if_neg h1, if_neg h2]
    show (if dep (d + 1) s = 0 then some i else clo (dep (d + 1) s) (p ++ q) (i + 1)) = _
    rw [e, if_neg (Nat.succ_ne_zero _), bal_plain fun c hc => h c (List.mem_cons_of_mem _ hc)]
    congr 1
    rw [List.length_cons]
    omega
theorem Pat.nil {gs : List Nat} : Pat gs [] := ⟨fun b d => ⟨b, rfl⟩, fun d q i => rfl, fun _ h => nomatch h⟩
theorem Pat.app {gs p q : List Nat} (h : Pat gs p) (k : Pat gs q) : Pat gs (p ++ q) := by
  refine ⟨fun b d => ?_, fun d r i => ?_, fun c hc => (List.mem_append.mp hc).elim (h.low c) (k.low c)⟩
  · obtain ⟨b1, e1⟩ := h.scn b d
    obtain ⟨b2, e2⟩ := k.scn b1 d
    exact ⟨b2, by rw [scan_app, e1]; exact e2⟩
  · rw [List.append_assoc, h.bal, k.bal, List.length_append, Nat.add_assoc]
/-- letters, points and bars stand anywhere -/
def free (gs : List Nat) (s : Nat) : Prop := s ∈ gs ∨ s = 46 ∨ s = 124
theorem one_scan {gs : List Nat} (az : ∀ c ∈ gs, 97 ≤ c ∧ c ≤ 122) {s : Nat} (h : free gs s) (b d : Nat) : scan gs b d [s] = some (s, d) := by
  have hs : s ≠ 42 ∧ s ≠ 41 ∧ s ≠ 40 ∧ s < 128 := by
    rcases h with h | rfl | rfl
    · have := az s h; omega
    · decide
    · decide
  have e1 : can gs b s d = true := by
    unfold can
    rw [if_neg hs.1, if_neg hs.2.1]
    rcases h with h | rfl | rfl
    · rw [decide_eq_true h]; rfl
    · simp
    · simp
  have e2 : dep d s = d := by unfold dep; rw [if_neg hs.2.2.1, if_neg hs.2.1]
  show (if can gs b s d then scan gs s (dep d s) [] else none) = _
  rw [e1, if_pos rfl, e2]
  rfl
theorem Pat.one {gs : List Nat} (az : ∀ c ∈ gs, 97 ≤ c ∧ c ≤ 122) {s : Nat} (h : free gs s) : Pat gs [s] := by
  have hs : s ≠ 42 ∧ s ≠ 41 ∧ s ≠ 40 ∧ s < 128 := by
    rcases h with h | rfl | rfl
    · have := az s h; omega
    · decide
    · decide
  exact ⟨fun b d => ⟨s, one_scan az h b d⟩, bal_plain fun c hc => by rw [List.mem_singleton.mp hc]; exact ⟨hs.2.2.1, hs.2.1⟩, fun c hc => by rw [List.mem_singleton.mp hc]; exact hs.2.2.2⟩
theorem bal_par {p : List Nat} (hb : ∀ d q i, clo (d + 1) (p ++ q) i = clo (d + 1) q (i + p.length)) : ∀ d q i, clo (d + 1) ((40 :: (p ++ [41])) ++ q) i = clo (d + 1) q (i + (40 :: (p ++ [41])).length) := fun d q i => by
  show (if dep (d + 1) 40 = 0 then some i else clo (dep (d + 1) 40) ((p ++ [41]) ++ q) (i + 1)) = _
  have e : dep (d + 1) 40 = d + 1 + 1 := rfl
  rw [e, if_neg (Nat.succ_ne_zero _), List.append_assoc, hb]
  show (if dep (d + 1 + 1) 41 = 0 then some _ else clo (dep (d + 1 + 1) 41) q _) = _
  have e2 : dep (d + 1 + 1) 41 = d + 1 := rfl
  rw [e2, if_neg (Nat.succ_ne_zero _)]
  congr 1
  rw [List.length_cons, List.length_append]
  show _ = i + (p.length + 1 + 1)
  omega
theorem Pat.par {gs p : List Nat} (h : Pat gs p) : Pat gs (40 :: (p ++ [41])) := by
  refine ⟨fun b d => ⟨41, ?_⟩, bal_par h.bal, fun c hc => ?_⟩
  · obtain ⟨b1, e1⟩ := h.scn 40 (d + 1)
    show (if can gs b 40 d then scan gs 40 (d + 1) (p ++ [41]) else none) = _
    have e0 : can gs b 40 d = true := by unfold can; simp
    rw [e0, if_pos rfl, scan_app, e1]
    show (if can gs b1 41 (d + 1) then scan gs 41 (dep (d + 1) 41) [] else none) = _
    have e2 : can gs b1 41 (d + 1) = true := by unfold can; simp
    rw [e2, if_pos rfl]
    rfl
  · rcases List.mem_cons.mp hc with rfl | hc
    · decide
    · rcases List.mem_append.mp hc with hc | hc
      · exact h.low c hc
      · rw [List.mem_singleton.mp hc]; decide
/-- ( .. )* -/
theorem Pat.star {gs p : List Nat} (h : Pat gs p) : Pat gs ((40 :: (p ++ [41])) ++ [42]) := by
  refine ⟨fun b d => ⟨42, ?_⟩, fun d q i => ?_, fun c hc => ?_⟩
  · have h1 : scan gs b d (40 :: (p ++ [41])) = some (41, d) := by
      obtain ⟨b1, e1⟩ := h.scn 40 (d + 1)
      show (if can gs b 40 d then scan gs 40 (d + 1) (p ++ [41]) else none) = _
      have e0 : can gs b 40 d = true := by unfold can; simp
      rw [e0, if_pos rfl, scan_app, e1]
      show (if can gs b1 41 (d + 1) then scan gs 41 (dep (d + 1) 41) [] else none) = _
      have e2 : can gs b1 41 (d + 1) = true := by unfold can; simp
      rw [e2, if_pos rfl]
      rfl
    rw [scan_app, h1]
    show (if can gs 41 42 d then scan gs 42 (dep d 42) [] else none) = _
    have e2 : can gs 41 42 d = true := by unfold can; simp
    rw [e2, if_pos rfl]
    rfl
  · rw [List.append_assoc, h.par.bal, bal_plain (p := [42]) (fun c hc => by rw [List.mem_singleton.mp hc]; decide), List.length_append, Nat.add_assoc]
  · rcases List.mem_append.mp hc with hc | hc
    · exact h.par.low c hc
    · rw [List.mem_singleton.mp hc]; decide
end Cnd
namespace Cnd
end Cnd

/-! Cnd2: the texts of conditions; how they are read: what has begun, what is left -/
namespace Cnd
def dec (n : Nat) : List Nat := if n < 10 then [48 + n] else [48 + n / 10, 48 + n % 10]
abbrev wdT (w : Bool) : List Nat := if w then [97, 110, 100] else [111, 114]
abbrev notT : List Nat := [110, 111, 116, 32]
abbrev namT : List Nat := [110, 97, 109, 101, 100, 32]
abbrev matT : List Nat := [109, 97, 116, 99, 104]
abbrev lenT : List Nat := [108, 101, 110, 103, 116, 104]
def kwT : Nat → List Nat
  | 0 => [115, 97, 109, 101]
  | 1 => [98, 101, 103, 105, 110, 115]
  | 2 => [101, 110, 100, 115]
  | _ => [108, 101, 115, 115]
/-- the text -/
def cTx : Cd → List Nat
  | .named n => namT ++ n
  | .mat p => matT ++ (40 :: (p ++ [41]))
  | .len r m => lenT ++ (40 :: ((dec r ++ 44 :: dec m) ++ [41]))
  | .tpl k a b _ _ => kwT k ++ (40 :: ((a ++ 44 :: b) ++ [41]))
  | .no c => notT ++ cTx c
  | .two w a b => 40 :: (cTx a ++ (32 :: (wdT w ++ (32 :: (cTx b ++ [41])))))
def leaf : Cd → Bool
  | .no _ => false
  | .two _ _ _ => false
  | _ => true
inductive Fr where
  | no
  | lft (w : Bool) (r : Cd)
  | rgt (w : Bool) (l : Cd)
/-- what still comes behind a condition; the innermost first -/
def rest (z : List Nat) : List Fr → List Nat
  | [] => z
  | .no :: fs => rest z fs
  | .lft w r :: fs => 32 :: (wdT w ++ (32 :: (cTx r ++ (41 :: rest z fs))))
  | .rgt _ _ :: fs => 41 :: rest z fs
/-- how much is left to read -/
def size : Cd → Nat
  | .no c => size c + 1
  | .two _ a b => size a + size b + 1
  | _ => 1
theorem size_pos : ∀ c : Cd, 0 < size c
  | .no c => Nat.succ_pos _
  | .two _ a b => Nat.succ_pos _
  | .named _ | .mat _ | .len _ _ | .tpl _ _ _ _ _ => Nat.one_pos
def left : List Fr → Nat
  | [] => 0
  | .lft _ r :: fs => size r + left fs
  | _ :: fs => left fs
/-- a leaf begins neither with not nor with a parenthesis -/
theorem lead : ∀ {c : Cd} (_ : leaf c = true) (z : List Nat), ¬ notT <+: (cTx c ++ z) ∧ ¬ [40] <+: (cTx c ++ z)
  | .named n, _, z => ⟨fun ⟨t, e⟩ => by simp [cTx] at e, fun ⟨t, e⟩ => by simp [cTx] at e⟩
  | .mat p, _, z => ⟨fun ⟨t, e⟩ => by simp [cTx] at e, fun ⟨t, e⟩ => by simp [cTx] at e⟩
  | .len r m, _, z => ⟨fun ⟨t, e⟩ => by simp [cTx] at e, fun ⟨t, e⟩ => by simp [cTx] at e⟩
  | .tpl k a b _ _, _, z => by
    match k with
    | 0 | 1 | 2 | _ + 3 => exact ⟨fun ⟨t, e⟩ => by simp [cTx, kwT] at e, fun ⟨t, e⟩ => by simp [cTx, kwT] at e⟩
  | .no _, h, _ => by cases h
  | .two _ _ _, h, _ => by cases h
end Cnd
namespace Cnd
/-- the word of a leaf that is no name, and what stands between its parentheses -/
def kd : Cd → List Nat
  | .mat _ => matT
  | .len _ _ => lenT
  | .tpl k _ _ _ _ => kwT k
  | _ => []
def inn : Cd → List Nat
  | .mat p => p
  | .len r m => dec r ++ 44 :: dec m
  | .tpl _ a b _ _ => a ++ 44 :: b
  | _ => []
end Cnd
namespace Cnd
end Cnd

namespace Own
open PySem PySem.Spec PyProof.Rows L2 SX
/-! ### conditions as they lie; texts cut at a sign -/
theorem sub_S {xs : List Nat} {i j : Nat} : Builtin.Str.strSub (S xs) i j = S ((xs.drop i).take (j - i)) := by
  have h := StrLaws.strSub_toList (S xs) i j
  show _ = (⟨_⟩ : Str)
  have : (Builtin.Str.strSub (S xs) i j) = ⟨((xs.drop i).take (j - i)).toArray⟩ := by
    cases e : Builtin.Str.strSub (S xs) i j with
    | mk a =>
      rw [e] at h
      congr 1
      exact Array.toList_inj.mp h
  exact this
theorem idx_app {a b : List Nat} {c : Nat} (h : c ∉ a) : (a ++ c :: b).idxOf c = a.length := by
  induction a with
  | nil => simp [List.idxOf_cons]
  | cons x a ih =>
    have hx : x ≠ c := fun e => h (by rw [e]; exact List.mem_cons_self ..)
    rw [List.cons_append, List.idxOf_cons, ih fun z => h (List.mem_cons_of_mem _ z), beq_eq_false_iff_ne.mpr hx]
    rfl
theorem part_at {a b : List Nat} {c : Nat} (h : c ∉ a) : (Txt.partition (S (a ++ c :: b)) (S [c])).1 = S a := by
  obtain ⟨r, e⟩ := occ1 (a := a ++ c :: b) (c := c) (List.mem_append_right _ (List.mem_cons_self ..))
  have e2 := idx_app (b := b) h
  unfold Txt.partition
  rw [e, e2]
  show Builtin.Str.strSub _ 0 a.length = S a
  rw [sub_S, List.drop_zero, Nat.sub_zero, List.take_left]
abbrev rLenQ (K : PySem.W.Frag) : List V → Hp → VK → Prop := fun xs H Q => ∃ p ys, xs = [.ref p] ∧ (SqL K H p ys ∨ SqT K H p ys) ∧ Q (.int ys.length) H
theorem callLenC {X : Cx} {K : PySem.W.Frag} (h : X.K = K) : CallR X (.builtin "len") (rLenQ K) := by subst h; exact call_len_seq
theorem dec_str {a b : List Nat} : decide (V.str (S a) = V.str (S b)) = decide (a = b) := by
  by_cases e : a = b
  · rw [e, decide_eq_true rfl, decide_eq_true rfl]
  · rw [decide_eq_false e]
    exact decide_eq_false fun h => e (S_inj (V.str.inj h))
theorem cutN_from {xs : List Nat} {a : Nat} (h : a ≤ xs.length) : cutS (S xs) (some ((a : Nat) : Int)) none = S (xs.drop a) := by
  unfold cutS
  rw [S_len, HT.sIx_nat, HT.sIx_none, Nat.min_eq_left h]
  show (⟨((xs.drop a).take (xs.length - a)).toArray⟩ : Str) = ⟨(xs.drop a).toArray⟩
  rw [List.take_of_length_le (by rw [List.length_drop]; omega)]
/-! ### conditions as they lie -/
def kwS : Nat → Str
  | 0 => Str.ofString "same"
  | 1 => Str.ofString "begins"
  | 2 => Str.ofString "ends"
  | _ => Str.ofString "less"
abbrev wdS (w : Bool) : Str := if w then Str.ofString "and" else Str.ofString "or"
open Cnd in
/-- a condition as it lies -/
def CdH (H : Hp) : Cd → V → Prop
  | .named n, v => ∃ a, v = .ref a ∧ H a = some (.tup [.str (Str.ofString "named"), tx n])
  | .mat p, v => ∃ a, v = .ref a ∧ H a = some (.tup [.str (Str.ofString "match"), tx p])
  | .len r m, v => ∃ a, v = .ref a ∧ H a = some (.tup [.str (Str.ofString "length"), iv r, iv m])
  | .tpl k _ _ x y, v => ∃ a, v = .ref a ∧ H a = some (.tup [.str (kwS k), tx x, tx y])
  | .no c, v => ∃ a x, v = .ref a ∧ H a = some (.tup [.str (Str.ofString "not"), x]) ∧ CdH H c x
  | .two w c d, v => ∃ a x y, v = .ref a ∧ H a = some (.tup [.str (wdS w), x, y]) ∧ CdH H c x ∧ CdH H d y
theorem CdH.keep {H H' : Hp} (k : ∀ a xs, H a = some (.tup xs) → H' a = some (.tup xs)) : ∀ {c : Cnd.Cd} {v : V}, CdH H c v → CdH H' c v
  | .named _, _, ⟨a, e, h⟩ => ⟨a, e, k _ _ h⟩
  | .mat _, _, ⟨a, e, h⟩ => ⟨a, e, k _ _ h⟩
  | .len _ _, _, ⟨a, e, h⟩ => ⟨a, e, k _ _ h⟩
  | .tpl _ _ _ _ _, _, ⟨a, e, h⟩ => ⟨a, e, k _ _ h⟩
  | .no _, _, ⟨a, x, e, h, i⟩ => ⟨a, x, e, k _ _ h, CdH.keep k i⟩
  | .two _ _ _, _, ⟨a, x, y, e, h, i, j⟩ => ⟨a, x, y, e, k _ _ h, CdH.keep k i, CdH.keep k j⟩
theorem CdH.same {H H' : Hp} {c : Cnd.Cd} {v : V} (h : CdH H c v) (s : Same H H') : CdH H' c v := h.keep fun _ _ e => s _ _ e
theorem CdH.go {H H' : Hp} {r : Addr} {c : Cnd.Cd} {v : V} (h : CdH H c v) (R : Rng H r) (g : Go r H H') : CdH H' c v := h.keep fun a xs e => g.1 _ _ (fun z => by
  obtain ⟨ys, er⟩ := R.ex
  rw [z, er] at e
  cases e) e
theorem CdH.ref {H : Hp} : ∀ {c : Cnd.Cd} {v : V}, CdH H c v → ∃ a k xs, v = .ref a ∧ H a = some (.tup (.str k :: xs))
  | .named _, _, ⟨a, e, h⟩ => ⟨a, _, _, e, h⟩
  | .mat _, _, ⟨a, e, h⟩ => ⟨a, _, _, e, h⟩
  | .len _ _, _, ⟨a, e, h⟩ => ⟨a, _, _, e, h⟩
  | .tpl _ _ _ _ _, _, ⟨a, e, h⟩ => ⟨a, _, _, e, h⟩
  | .no _, _, ⟨a, x, e, h, _⟩ => ⟨a, _, _, e, h⟩
  | .two _ _ _, _, ⟨a, x, y, e, h, _⟩ => ⟨a, _, _, e, h⟩
/-- signs that stand in the text of a template -/
theorem row_signs {gs : List Nat} (hg : Good gs) {its : List (List Nat)} (h : Row gs its) : ∀ c ∈ rTx gs its, c ≠ 40 ∧ c ≠ 41 ∧ c ≠ 44 ∧ c < 128 := by
  intro c hc
  have az : ∀ c ∈ gs, c ≠ 40 ∧ c ≠ 41 ∧ c ≠ 44 ∧ c < 128 := fun c hc => by have := hg.az c hc; omega
  unfold rTx at hc
  split at hc
  · rw [List.mem_singleton.mp hc]; decide
  · obtain ⟨l, hl, hcl⟩ := List.mem_flatten.mp hc
    obtain ⟨x, hx, rfl⟩ := List.mem_map.mp hl
    have hxm : ∀ c ∈ x, c ∈ gs := fun c hc => row_mem h x hx c hc
    unfold iTx at hcl
    split at hcl
    · split at hcl
      · simp only [List.mem_cons, List.not_mem_nil, or_false] at hcl
        rcases hcl with rfl | rfl <;> decide
      · simp only [List.mem_append, List.mem_cons, List.not_mem_nil, or_false] at hcl
        rcases hcl with (rfl | h2) | rfl
        · decide
        · exact az c (hxm c h2)
        · decide
    · exact az c (hxm c hcl)
/-- what is asked of the text of a condition: names of one to eight letters, patterns, numbers, texts of templates (a, b; x, y as templates themselves write them) -/
inductive OkS (gs : List Nat) : Cnd.Cd → Prop
  | named {n : List Nat} : 0 < n.length → n.length ≤ 8 → (∀ c ∈ n, 97 ≤ c ∧ c ≤ 122) → OkS gs (.named n)
  | mat {p : List Nat} : Cnd.Pat gs p → p.length ≤ 1000 → OkS gs (.mat p)
  | len {r m : Nat} : r < m → m ≤ 60 → OkS gs (.len r m)
  | tpl {k : Nat} {a b : List Nat} {i j : List (List Nat)} : k ≤ 3 → Row gs i → Row gs j → i.length ≤ 100 → j.length ≤ 100 → Rd gs i a → Rd gs j b → a.length ≤ 1000 → b.length ≤ 1000 → (∀ c ∈ a, c ≠ 40 ∧ c ≠ 41 ∧ c ≠ 44) → (∀ c ∈ b, c ≠ 40 ∧ c ≠ 41 ∧ c ≠ 44) → OkS gs (.tpl k a b (rTx gs i) (rTx gs j))
  | no {c : Cnd.Cd} : OkS gs c → OkS gs (.no c)
  | two {w : Bool} {c d : Cnd.Cd} : OkS gs c → OkS gs d → OkS gs (.two w c d)
/-- the same, as the law writes it -/
inductive OkC (gs : List Nat) : Cnd.Cd → Prop
  | named {n : List Nat} : 0 < n.length → n.length ≤ 8 → (∀ c ∈ n, 97 ≤ c ∧ c ≤ 122) → OkC gs (.named n)
  | mat {p : List Nat} : Cnd.Pat gs p → p.length ≤ 1000 → OkC gs (.mat p)
  | len {r m : Nat} : r < m → m ≤ 60 → OkC gs (.len r m)
  | tpl {k : Nat} {i j : List (List Nat)} : k ≤ 3 → Row gs i → Row gs j → i.length ≤ 100 → j.length ≤ 100 → OkC gs (.tpl k (rTx gs i) (rTx gs j) (rTx gs i) (rTx gs j))
  | no {c : Cnd.Cd} : OkC gs c → OkC gs (.no c)
  | two {w : Bool} {c d : Cnd.Cd} : OkC gs c → OkC gs d → OkC gs (.two w c d)
theorem OkC.src {gs : List Nat} (hg : Good gs) {c : Cnd.Cd} (h : OkC gs c) : OkS gs c := by
  induction h with
  | named a b c => exact .named a b c
  | mat a b => exact .mat a b
  | len a b => exact .len a b
  | tpl hk hi hj li lj => exact .tpl hk hi hj li lj (rd_r hg.lo hi) (rd_r hg.lo hj) (rTx_len hg hi (by omega)) (rTx_len hg hj (by omega)) (fun c hc => ⟨(row_signs hg hi c hc).1, (row_signs hg hi c hc).2.1, (row_signs hg hi c hc).2.2.1⟩) (fun c hc => ⟨(row_signs hg hj c hc).1, (row_signs hg hj c hc).2.1, (row_signs hg hj c hc).2.2.1⟩)
  | no _ ih => exact .no ih
  | two _ _ i j => exact .two i j
/-! ### conditions as data -/
open Cnd in
/-- all signs are plain -/
def Low : Cd → Prop
  | .named n => ∀ c ∈ n, c < 128
  | .mat p => ∀ c ∈ p, c < 128
  | .len _ _ => True
  | .tpl _ _ _ x y => (∀ c ∈ x, c < 128) ∧ ∀ c ∈ y, c < 128
  | .no c => Low c
  | .two _ a b => Low a ∧ Low b
theorem OkS.low {gs : List Nat} (hg : Good gs) {c : Cnd.Cd} (h : OkS gs c) : Low c := by
  induction h with
  | named _ _ h => exact fun c hc => by have := h c hc; omega
  | mat h _ => exact h.low
  | len _ _ => trivial
  | tpl _ hi hj _ _ _ _ _ _ _ _ => exact ⟨fun c hc => (row_signs hg hi c hc).2.2.2, fun c hc => (row_signs hg hj c hc).2.2.2⟩
  | no _ ih => exact ih
  | two _ _ i j => exact ⟨i, j⟩
/-! ### what has begun, as it lies -/
def FrV (H : Hp) : Cnd.Fr → V → Prop
  | .no, v => v = .str (Str.ofString "not")
  | .lft _ _, v => v = .str (Str.ofString "(")
  | .rgt w l, v => ∃ a x, v = .ref a ∧ H a = some (.tup [.str (wdS w), x]) ∧ CdH H l x
theorem FrV.keep {H H' : Hp} (k : ∀ a xs, H a = some (.tup xs) → H' a = some (.tup xs)) : ∀ {f : Cnd.Fr} {v : V}, FrV H f v → FrV H' f v
  | .no, _, h => h
  | .lft _ _, _, h => h
  | .rgt _ _, _, ⟨a, x, e, h, i⟩ => ⟨a, x, e, k _ _ h, i.keep k⟩
end Own

namespace Own
open PySem PySem.Spec PyProof.Rows L2 SX RZ
/-! ### a plain name that takes what a comprehension has made -/
/-- what holds in each frame that a comprehension may run in -/
abbrev InBlk (X : Cx) (scope : Scope) (p : Cx → Prop) : Prop := ∀ (s : Shared) (H : Hp) (C : Addr) (cl : List (Str × Addr)) (fp : List Addr), p (X.blk s H scope (compEnvC scope cl C X.env) fp)
section
variable {X : Cx}
/-- the name takes the new object while the comprehension's frame is still there -/
theorem takes_made {pins : List (Addr × Obj)} {σ : L2.St} {H : Hp} {s : Shared} {i : Nat} {m : Str → Option Value} {y : Str} {py : Pos} {L C : Addr} {D : Ends} (I : Inv X pins σ H s) (hN : X.N.Nodup) (hy : X.N[i]? = some y) (hyl : X.env.scope.names.lookup y = some .local) (hn : s.heap.Ns C m) (hf : FpOk X pins H C)
    (hq : gName i (.ref L) σ H D.nx) : compPost (model X.prog X.w) X.A X.xe (some (assign (.Name y py) X.env)) (fun _ s' => SP X pins D .next s') (.ref L) C (.ok .next) s := by
  show wpAny _ _ (assign (.Name y py) X.env (.ref L)) _ _ _
  have loc : X.env.scope.names.lookup y = some .local ∨ X.env.scope.names.lookup y = some .cell := .inl hyl
  refine wpAny_assign_Name (store_ok2 (v := V.ref L) I hN hy loc rfl (fun s2 I2 ⟨a, sb, ha⟩ => ⟨m, hn.sameBut sb ?_, fun h3 sb3 => ⟨_, H, ?_, hq⟩⟩) (.inr hyl))
  · rcases ha with z | z
    · exact fun e => hf.2.1 (e.trans z)
    · exact fun e => hf.2.2.2.2.1 y a z e.symm
  · exact I2.turned (t' := s2.toks) (fun b o hb e => (sb3.2 b hb).trans e) hf.1 hf.2.1 hf.2.2.2.1 hf.2.2.2.2.1 hf.2.2.2.2.2
theorem sw_trueD {kx vx : Expr} {gs : List Comprehension} {scope : Scope} {pos py : Pos} {y : Str} {l : Nat} {env : Env} (hk : env.scope.kind = .function) (hy : env.scope.names.lookup y = some .local) (hl : (py.line == pos.line) = true)
    (ha : (scope.names.any fun z => z.1 == y && (z.2 == .local || z.2 == .cell)) = false) : swapsWith (.DictComp kx vx gs scope pos) (some (.Name y py)) l env = pure true := by
  have e1 : env.kindOf y = some .local := hy
  have e2 : env.blockKind = .function := by
    show (match env.scope.kind with | k => _) = _
    unfold Env.blockKind at *
    rw [hk]
    rfl
  simp only [swapsWith, e1, e2, Expr.pos, hl, ha]
  rfl
theorem ps_setDc {i : Nat} {y : Str} {py : Pos} {kx vx tg iter : Expr} {ifs : List Expr} {scope : Scope} {own : List (Str × Nat)} {pos spos : Pos} {wi : TI} {g : TG} {tt : TT} {tk tv : TE} (hc : X.calm = true) (hN : X.N.Nodup) (hy : X.N[i]? = some y) (hyl : X.env.scope.names.lookup y = some .local)
    (hsw : swapsWith (.DictComp kx vx [⟨tg, iter, ifs, 0⟩] scope pos) (some (.Name y py)) spos.line X.env = pure true) (hi : PI X tg iter wi) (ok : BlkOk X.N X.env.scope scope own)
    (hg : InBlk X scope fun B => PG B tg g) (ht : InBlk X scope fun B => PTs B ifs tt) (hk : InBlk X scope fun B => PE B kx tk) (he : InBlk X scope fun B => PE B vx tv) (hs : ∀ x, foldedSetIterable iter X.env x = pure x := by intro _; rfl) :
    PS X (.Assign [.Name y py] (.DictComp kx vx [⟨tg, iter, ifs, 0⟩] scope pos) spos) (tAsg (tDc wi g tt tk tv (own.map (·.2))) (gName i)) := by
  refine ⟨fun pins s σ H D I h => ?_⟩
  have made := dc_core (pos := pos) (pos' := firstIterPos [⟨tg, iter, ifs, 0⟩] pos) (use := some (assign (.Name y py) X.env)) (Qf := fun _ s' => SP X pins D .next s') hc hN I hi ok hg ht hk he hs (Q := fun x H1 => gName i x σ H1 D.nx) h
    fun L C s' m H' I' q hn f => takes_made I' hN hy hyl hn f q
  rw [exec_Assign_Name_used _ _ _ _ hsw]
  exact wpAny_bind (wpAny_standAt (wpAny_bind (wpAny_bind (thn made fun _ s' hq => wpAny_pure (wpAny_pure hq)))))
end
/-! ### d.setdefault(k, x), the keys tuples of ints and texts -/
end Own

namespace Own
open PySem PySem.Spec PyProof.Rows L2 SX
/-! ### a & b, a | b, ~a by an own class's dunders -/
section
variable {X : Cx} {CX : CXT} {n : Nat} {C f : Addr} {fd : FuncData} {ps : List Str} {sp : Sp} {E : XK}
end
end Own

namespace Mch
/-! ### the machine of one text -/
section
variable {gs xs : List Nat}
variable {W : List (List Nat)} {T : List Bool}
end
end Mch

namespace Mch
/-! ### two machines side by side -/
/-- the pairs found so far and the rows of the first ones -/
structure Prs (d : Nat) (W V : List (List Nat)) (pairs : List (Nat × Nat)) (made : List (List Nat)) : Prop where
  nd : pairs.Nodup
  zero : pairs[0]? = some (0, 0)
  lt : ∀ p ∈ pairs, p.1 < W.length ∧ p.2 < V.length
  le : made.length ≤ pairs.length
  row : ∀ (i : Nat) (r : List Nat) (p : Nat × Nat), made[i]? = some r → pairs[i]? = some p → r.length = d ∧ ∀ a, a < d → pairs[r.getD a 0]? = some (dl W p.1 a, dl V p.2 a)
section
variable {d : Nat} {W V : List (List Nat)} {pairs : List (Nat × Nat)} {made : List (List Nat)}
theorem Prs.start (oW : Ok d W) (oV : Ok d V) : Prs d W V [(0, 0)] [] :=
  ⟨by simp, rfl, fun p hp => by rw [List.mem_singleton.mp hp]; exact ⟨oW.pos, oV.pos⟩, by simp, fun i r p h => by simp at h⟩
theorem prod_nodup {n m : Nat} {l : List (Nat × Nat)} (nd : l.Nodup) (h : ∀ p ∈ l, p.1 < n ∧ p.2 < m) : l.length ≤ n * m := by
  have hinj : ∀ p ∈ l, ∀ q ∈ l, p.1 * m + p.2 = q.1 * m + q.2 → p = q := by
    intro p hp q hq e
    have h1 := (h p hp).2
    have h2 := (h q hq).2
    have m0 : 0 < m := by omega
    have e1 : p.1 = q.1 := by
      have a1 : (p.1 * m + p.2) / m = p.1 := by rw [Nat.add_comm, Nat.add_mul_div_right _ _ m0, Nat.div_eq_of_lt h1, Nat.zero_add]
      have a2 : (q.1 * m + q.2) / m = q.1 := by rw [Nat.add_comm, Nat.add_mul_div_right _ _ m0, Nat.div_eq_of_lt h2, Nat.zero_add]
      rw [← a1, ← a2, e]
    have e2 : p.2 = q.2 := by rw [e1] at e; omega
    exact Prod.ext e1 e2
  have nd2 : (l.map fun p => p.1 * m + p.2).Nodup := by
    refine List.pairwise_map.mpr (List.Pairwise.imp_of_mem ?_ nd)
    intro p q hp hq ne e
    exact ne (hinj p hp q hq e)
  have := nodup_len nd2 (n := n * m) fun x hx => by
    obtain ⟨p, hp, rfl⟩ := List.mem_map.mp hx
    obtain ⟨h1, h2⟩ := h p hp
    have : (p.1 + 1) * m ≤ n * m := Nat.mul_le_mul_right m h1
    rw [Nat.succ_mul] at this
    omega
  rw [List.length_map] at this
  exact this
theorem Prs.few (h : Prs d W V pairs made) : pairs.length ≤ W.length * V.length := prod_nodup h.nd h.lt
/-- a pair that is new -/
theorem Prs.more (h : Prs d W V pairs made) {p : Nat × Nat} (hn : p ∉ pairs) (hp : p.1 < W.length ∧ p.2 < V.length) : Prs d W V (pairs ++ [p]) made := by
  refine ⟨?_, ?_, ?_, ?_, ?_⟩
  · refine List.nodup_append.mpr ⟨h.nd, by simp, fun x hx y hy e => ?_⟩
    rw [List.mem_singleton.mp hy] at e
    exact hn (e ▸ hx)
  · have := (List.getElem?_eq_some_iff.mp h.zero).1
    rw [List.getElem?_append_left this]
    exact h.zero
  · intro q hq
    rcases List.mem_append.mp hq with z | z
    · exact h.lt q z
    · rw [List.mem_singleton.mp z]; exact hp
  · rw [List.length_append]; have := h.le; omega
  · intro i r q hr hq
    have hi : i < pairs.length := Nat.lt_of_lt_of_le (List.getElem?_eq_some_iff.mp hr).1 h.le
    rw [List.getElem?_append_left hi] at hq
    obtain ⟨h1, h2⟩ := h.row i r q hr hq
    refine ⟨h1, fun a ha => ?_⟩
    have := h2 a ha
    rw [List.getElem?_append_left (List.getElem?_eq_some_iff.mp this).1]
    exact this
/-- a row is done -/
theorem Prs.done (h : Prs d W V pairs made) {p : Nat × Nat} {r : List Nat} (hp : pairs[made.length]? = some p) (hr : r.length = d) (hg : ∀ a, a < d → pairs[r.getD a 0]? = some (dl W p.1 a, dl V p.2 a)) : Prs d W V pairs (made ++ [r]) := by
  refine ⟨h.nd, h.zero, h.lt, by rw [List.length_append]; exact (List.getElem?_eq_some_iff.mp hp).1, fun i r' q hr' hq => ?_⟩
  by_cases hi : i < made.length
  · rw [List.getElem?_append_left hi] at hr'
    exact h.row i r' q hr' hq
  · have hl := (List.getElem?_eq_some_iff.mp hr').1
    rw [List.length_append] at hl
    have e1 : [r].length = 1 := rfl
    have ei : i = made.length := by omega
    subst ei
    rw [List.getElem?_append_right (Nat.le_refl _), Nat.sub_self] at hr'
    cases hr'
    rw [hp] at hq
    cases hq
    exact ⟨hr, hg⟩
/-- all rows are done -/
theorem Prs.ok (h : Prs d W V pairs made) (e : made.length = pairs.length) : Ok d made := by
  have h0 := (List.getElem?_eq_some_iff.mp h.zero).1
  refine ⟨by omega, fun x hx => ?_, fun x hx t ht => ?_⟩
  · obtain ⟨i, hi⟩ := List.mem_iff_getElem?.mp hx
    have hl := (List.getElem?_eq_some_iff.mp hi).1
    exact (h.row i x _ hi (List.getElem?_eq_getElem (by omega))).1
  · obtain ⟨i, hi⟩ := List.mem_iff_getElem?.mp hx
    have hl := (List.getElem?_eq_some_iff.mp hi).1
    obtain ⟨h1, h2⟩ := h.row i x _ hi (List.getElem?_eq_getElem (by omega))
    obtain ⟨a, ha⟩ := List.mem_iff_getElem?.mp ht
    have hal := (List.getElem?_eq_some_iff.mp ha).1
    have h3 := h2 a (by omega)
    rw [List.getD_eq_getElem?_getD, ha] at h3
    have := (List.getElem?_eq_some_iff.mp h3).1
    rw [e]
    exact this
theorem Prs.walk (h : Prs d W V pairs made) (e : made.length = pairs.length) : ∀ {w : List Nat} {i : Nat} {p : Nat × Nat}, (∀ a ∈ w, a < d) → pairs[i]? = some p → pairs[wk made i w]? = some (wk W p.1 w, wk V p.2 w)
  | [], _, _, _, hp => hp
  | a :: w, i, p, hw, hp => by
    have hi := (List.getElem?_eq_some_iff.mp hp).1
    have hr : made[i]? = some made[i] := List.getElem?_eq_getElem (by omega)
    obtain ⟨_, h2⟩ := h.row i _ p hr hp
    have h3 := h2 a (hw a (List.mem_cons_self ..))
    have ed : dl made i a = made[i].getD a 0 := by
      rw [dl_eq, show rowOf made i = made[i] by
        unfold rowOf
        rw [List.getD_eq_getElem?_getD, hr]
        rfl]
    show pairs[Mch.wk made (dl made i a) w]? = _
    rw [ed]
    exact Prs.walk h e (p := (dl W p.1 a, dl V p.2 a)) (fun b hb => hw b (List.mem_cons_of_mem _ hb)) h3
/-- the answers of the pairs -/
theorem Prs.answer {κ : Type} {dA : κ} {g : Nat × Nat → κ} (h : Prs d W V pairs made) (e : made.length = pairs.length) {w : List Nat} (hw : ∀ a ∈ w, a < d) : (pairs.map g).getD (wk made 0 w) dA = g (wk W 0 w, wk V 0 w) := by
  have := h.walk e hw h.zero
  rw [List.getD_eq_getElem?_getD, List.getElem?_map, this]
  rfl
end
end Mch

namespace Own
open PySem PySem.Spec PyProof.Rows L2 SX RZ
/-! ### zip of two lists or of two tuples, its pairs kept: what was given out may be there still, or not -/
section
variable {prog : Program} {w : World} {A : Around} {E : Value → Shared → Prop} {s : Shared} {z TI TO i1 i2 : Addr} {f1 f2 : List Addr} {n1 n2 i : Nat} {P1 P2 : Nat → Value → Prop} {S1 S2 : Nat → Heap → Prop} {a1 a2 v : Value} {b : Bool}
end
def ItQ (q : Bool) (h : Heap) (it a : Addr) (i : Nat) : Prop := if q = true then h.IsTupleIter it a i else h.IsListIter it a i
theorem ItQ.at {q : Bool} {h h' : Heap} {it a : Addr} {i : Nat} (t : ItQ q h it a i) (k : ∀ o, h.get? it = some o → h'.get? it = some o) : ItQ q h' it a i := by
  cases q
  · obtain ⟨o, e, r⟩ := t
    exact ⟨o, k o e, r⟩
  · obtain ⟨o, e, r⟩ := t
    exact ⟨o, k o e, r⟩
theorem ItQ.obj {q : Bool} {h : Heap} {it a : Addr} {i : Nat} (t : ItQ q h it a i) : ∃ o, h.get? it = some o ∧ ∀ v, o.data ≠ .cell v := by
  cases q
  · obtain ⟨o, e, _, r⟩ := t
    exact ⟨o, e, fun v z => by rw [r] at z; cases z⟩
  · obtain ⟨o, e, _, r⟩ := t
    exact ⟨o, e, fun v z => by rw [r] at z; cases z⟩
section
variable {X : Cx} {pins : List (Addr × Obj)} {σ : L2.St} {H : Hp} {s : Shared} {a it : Addr} {xs ys : List V} {q : Bool}
end
/-! ### {(a, b): c} -/
end Own

namespace Own
open PySem PySem.Spec PyProof.Rows L2 SX LamX NdefX
/-! ### functions that are handed to a def -/
section
variable {X : Cx} {pins : List (Addr × Obj)} {σ : L2.St} {H : Hp} {s : Shared} {cl : List (Str × Addr)} {fr : List Str} {ws : List (Option V)}
end
/-- the promise of a lambda -/
structure LOk (P : Program) (w : World) (K : PySem.W.Frag) (mg : Str → Option Value) (base : Heap) (CX : CXT) (k : Nat) (f : Addr) (F : LF) (ps fr : List Str) (sp : List (Option V) → Sp) : Prop where
  len : ∀ ws vs H Q E, sp ws vs H Q E → vs.length = ps.length
  run : ∀ (A : Around) (outer : List Env) (s : Shared) (H : Hp) (us : List Value) (vs : List V) (ws : List (Option V)) (Q : VK) (E : XK), Room k A → Env0 P w K mg base A outer s H → LamAt H f F →
    CellsAt F.cl fr ws s.heap H → Vals vs us → sp ws vs H Q E → codeAny (model P w) A (.call (.ref f) ⟨us, []⟩) (CR CX outer P w H s Q E) s
theorem LOk.mono {P : Program} {w : World} {K : PySem.W.Frag} {mg : Str → Option Value} {base : Heap} {CX : CXT} {j k : Nat} {f : Addr} {F : LF} {ps fr : List Str} {sp : List (Option V) → Sp} (o : LOk P w K mg base CX j f F ps fr sp) (h : j ≤ k) : LOk P w K mg base CX k f F ps fr sp := ⟨o.len, fun A outer s H us vs ws Q E hr => o.run A outer s H us vs ws Q E (hr.mono h)⟩
/-! ### what a frame may call -/
section
variable {X : Cx} {f : Addr} {sp : Sp} {at_ : Hp → Prop} {i j k : Nat} {x y : Str} {t : TA} {e : Expr} {es : List Expr} {p q pos : Pos}
end
/-! ### {a: b}, a a tuple of any kind -/
section
variable {X : Cx} {κ : Type} [DecidableEq κ] {P : Program} {w : World} {knd : PySem.HeapKind P w κ} {kin : Hp → κ → Addr → Prop}
end
end Own

namespace Own
open PySem PySem.Spec PyProof.Rows L2 SX LamX NdefX
/-! ### a lambda as a value, in a def that makes other functions too -/
section
variable {X : Cx} {pins : List (Addr × Obj)} {σ : L2.St} {H : Hp} {s : Shared}
end
end Own

namespace Own
open PySem PySem.Spec PyProof.Rows L2 SX LamX NdefX
/-! ### a nested def with cells of its own beside the captured ones -/
theorem cellsFrom_app : ∀ (names : List (Str × NameKind)) (n : Nat) (acc : List (Str × Addr)), cellsFrom n names acc = cellsFrom n names [] ++ acc
  | [], _, _ => rfl
  | (x, k) :: r, n, acc => by
    unfold cellsFrom
    split
    · rw [cellsFrom_app r (n + 1) ((x, n) :: acc), cellsFrom_app r (n + 1) [(x, n)], List.append_assoc]
      rfl
    · exact cellsFrom_app r n acc
theorem own_cell : ∀ (names : List (Str × NameKind)) (n : Nat) (acc : List (Str × Addr)) {y : Str} {c : Addr}, (y, c) ∈ cellsFrom n names acc → (y, c) ∈ acc ∨ (y, NameKind.cell) ∈ names
  | [], _, _, _, _, h => .inl h
  | (x, k) :: r, n, acc, y, c, h => by
    unfold cellsFrom at h
    split at h
    · rename_i hk
      rcases own_cell r (n + 1) _ h with z | z
      · rcases List.mem_cons.mp z with e | z
        · cases e
          have ek : k = NameKind.cell := by
            cases k <;> first | rfl | (exact absurd hk (by decide))
          exact .inr (by rw [ek]; exact List.mem_cons_self ..)
        · exact .inl z
      · exact .inr (List.mem_cons_of_mem _ z)
    · rcases own_cell r n acc h with z | z
      · exact .inl z
      · exact .inr (List.mem_cons_of_mem _ z)
section
variable {M : Model} {A : Around} {E : Value → Shared → Prop} {s₀ s : Shared} {m cm : Str → Option Value} {env : Env} {cs : List (Str × Addr)}
end
/-- its names: the parameters (plain or cells), then the captured ones, then its locals -/
structure GScope (N ps fr : List Str) (sc : Scope) : Prop where
  kind : sc.kind = .function
  co : sc.isCoroutine = false
  gen : sc.isGenerator = false
  nd : N.Nodup
  pre : N.take (ps.length + fr.length) = ps ++ fr
  par : ∀ x ∈ ps, sc.names.lookup x = some .local ∨ sc.names.lookup x = some .cell
  sep : ∀ y ∈ sc.names, y.2 = .cell → y.1 ∉ fr
  free : ∀ y ∈ sc.names, y.2 = .free → y.1 ∈ fr
  frk : ∀ x ∈ fr, sc.names.lookup x = some .free
abbrev envG (F : NF) (f L : Addr) : Env := newEnv F.scope L mainGlobals (cellsFrom (L + 1) F.scope.names F.cl) (F.qual ++ ".<locals>.") (some f) (.ref F.c) none builtinsNs
/-- the context of its body -/
def gcx (CX : CXT) (P : Program) (w : World) (K : PySem.W.Frag) (mg : Str → Option Value) (base : Heap) (N : List Str) (F : NF) (f : Addr) (A : Around) (outer : List Env) (s : Shared) (H : Hp) (E : XK) : Cx :=
  { prog := P, w := w, K := K, mg := mg, base := base, A := A.deeper (envG F f s.heap.objs.size), N := N, s_0 := s, H_0 := H, env := envG F f s.heap.objs.size, outer := outer, stack := envG F f s.heap.objs.size :: outer, ex := [], calm := true, fn := fun _ => false, pn := [],
    xe := fun e s' => wpAny (model P w) (A.deeper (envG F f s.heap.objs.size)) (leaving (envG F f s.heap.objs.size) e) (fun _ z => CX outer H s E e z) (fun e' z => CX outer H s E e' z) s' }
section
variable {CX : CXT} {P : Program} {w : World} {K : PySem.W.Frag} {mg : Str → Option Value} {base : Heap} {N ps fr : List Str} {F : NF} {f : Addr} {k j : Nat} {sp sp' : List (Option V) → Sp} {A : Around} {outer : List Env} {s s1 : Shared} {H : Hp} {E : XK} {us : List Value} {vs : List V} {ws : List (Option V)}
theorem inv_startG (S : GScope N ps fr F.scope) (hd : A.handled = none) (e0 : Env0 P w K mg base A outer s H) (hl : vs.length = ps.length) (r : Vals vs us) (C : CellsAt F.cl fr ws s.heap H)
    (x : InCallC s s.heap.objs.size (bindL (fun y => F.scope.names.lookup y) (ps.zip us) fun _ => none) (cellsFrom (s.heap.objs.size + 1) F.scope.names []) (bindC (fun y => F.scope.names.lookup y) (ps.zip us) fun _ => none) s1) :
    Inv (gcx CX P w K mg base N F f A outer s H E) [] (startF N vs ws) H s1 := by
  obtain ⟨h1, tk, rfl, keep⟩ := x.done
  have long : ps.length + fr.length ≤ N.length := by
    have q := congrArg List.length S.pre
    rw [List.length_take, List.length_append] at q
    omega
  have noex : ∀ b : Addr, b ∉ (gcx CX P w K mg base N F f A outer s H E).ex := fun b z => absurd (show b ∈ ([] : List Addr) from z) (by simp)
  have live : ∀ {c : Addr} {v : Option Value}, s.heap.IsCell c v → h1.IsCell c v := fun {c v} ⟨o, ho, hd⟩ => ⟨o, keep _ _ ho, hd⟩
  -- a name's cell: its own, or captured
  have two : ∀ {y c}, (gcx CX P w K mg base N F f A outer s H E).env.cells.lookup y = some c → (cellsFrom (s.heap.objs.size + 1) F.scope.names []).lookup y = some c ∨ F.cl.lookup y = some c := by
    intro y c e
    have e : (cellsFrom (s.heap.objs.size + 1) F.scope.names F.cl).lookup y = some c := e
    rw [cellsFrom_app, List.lookup_append] at e
    cases z : (cellsFrom (s.heap.objs.size + 1) F.scope.names []).lookup y with
    | some c' => rw [z] at e; exact .inl e
    | none => rw [z] at e; exact .inr e
  have capt : ∀ {y c}, y ∈ fr → F.cl.lookup y = some c → (gcx CX P w K mg base N F f A outer s H E).env.cells.lookup y = some c := by
    intro y c hy e
    show (cellsFrom (s.heap.objs.size + 1) F.scope.names F.cl).lookup y = some c
    rw [cellsFrom_app, List.lookup_append]
    cases z : (cellsFrom (s.heap.objs.size + 1) F.scope.names []).lookup y with
    | some c' =>
      rcases own_cell _ _ _ (PySem.mem_of_lookup z) with q | q
      · cases q
      · exact absurd hy (S.sep _ q rfl)
    | none => exact e
  have mine : ∀ {y c}, (cellsFrom (s.heap.objs.size + 1) F.scope.names []).lookup y = some c → (gcx CX P w K mg base N F f A outer s H E).env.cells.lookup y = some c := by
    intro y c e
    show (cellsFrom (s.heap.objs.size + 1) F.scope.names F.cl).lookup y = some c
    rw [cellsFrom_app, List.lookup_append, e]
    rfl
  have young : ∀ {y c}, (cellsFrom (s.heap.objs.size + 1) F.scope.names []).lookup y = some c → s.heap.objs.size < c := fun e => x.above _ _ (PySem.mem_of_lookup e)
  have old : ∀ {y c}, F.cl.lookup y = some c → c < s.heap.objs.size := fun e => let ⟨_, v, z⟩ := C.all _ _ e; z.lt
  refine ⟨⟨e0.mod, S.kind, rfl, rfl, Nat.le_refl _, fun y z c a b => ?_, fun y hy => ?_, fun y c z _ => ?_, fun _ => hd, Around.frames_deeper e0.frames, .inr ⟨rfl, rfl⟩, fun b z => absurd z (noex b), e0.bs, e0.bsz, fun b _ _ => noex b, fun b z => absurd z (noex b), e0.funs, e0.frf⟩,
    rfl, e0.bare, Un.kept keep, ⟨_, x.toInCall.ns, fun i y v e1 e2 e3 => ?_⟩, fun y c e => ?_, e0.hok.fresh (Nat.le_refl _), fun y c e => ?_, fun q hq => absurd (show q ∈ ([] : List (Addr × Obj)) ++ [] from hq) (by simp), e0.hok.kept keep, ?_⟩
  · rcases two a with a | a <;> rcases two b with b | b
    · exact name_of_addr x.apart (PySem.mem_of_lookup a) (PySem.mem_of_lookup b)
    · exact absurd (Nat.lt_trans (young a) (old b)) (Nat.lt_irrefl _)
    · exact absurd (Nat.lt_trans (young b) (old a)) (Nat.lt_irrefl _)
    · exact C.inj _ _ _ a b
  · have hy : F.scope.names.lookup y = some .cell ∨ F.scope.names.lookup y = some .free := hy
    rcases hy with hy | hy
    · obtain ⟨c, hc⟩ := cell_has (n := s.heap.objs.size + 1) hy
      exact ⟨c, mine hc⟩
    · have hf := S.free _ (PySem.mem_of_lookup hy) rfl
      obtain ⟨i, hi⟩ := List.mem_iff_getElem?.mp hf
      obtain ⟨c, hc, _⟩ := C.has i y hi
      exact ⟨c, capt hf hc⟩
  · have z : false = true := z
    cases z
  · have e1 : N[i]? = some y := e1
    have clen := C.len
    unfold startF at e2
    by_cases c1 : i < ps.length
    · have hq : (ps ++ fr)[i]? = some y := by
        rw [← S.pre, List.getElem?_take_of_lt (by omega)]
        exact e1
      rw [List.getElem?_append_left c1] at hq
      rw [List.getElem?_append_left (by rw [List.length_map]; omega), List.getElem?_map] at e2
      have ha : vs[i]? = some v := by
        cases e : vs[i]? with
        | none => rw [e] at e2; cases e2
        | some a => rw [e] at e2; cases e2; rfl
      obtain ⟨u, hu, rv⟩ := r.get ha
      have nodup : ps.Nodup := by
        have q := S.nd.sublist (List.take_sublist (ps.length + fr.length) N)
        rw [S.pre] at q
        exact (List.nodup_append.mp q).1
      refine ⟨u, rv, ?_⟩
      rcases S.par y (List.mem_of_getElem? hq) with kk | kk
      · exact .inl ⟨kk, bindL_get nodup hq hu kk⟩
      · obtain ⟨c, e⟩ := cell_has (n := s.heap.objs.size + 1) kk
        refine .inr ⟨.inl kk, c, mine e, ?_⟩
        have q := x.cell y c e
        rw [bindC_get nodup hq hu (by show F.scope.names.lookup y ≠ _; rw [kk]; decide)] at q
        exact q
    · rw [List.getElem?_append_right (by rw [List.length_map]; omega), List.length_map] at e2
      by_cases c2 : i < ps.length + fr.length
      · have hq : (ps ++ fr)[i]? = some y := by
          rw [← S.pre, List.getElem?_take_of_lt (by omega)]
          exact e1
        rw [List.getElem?_append_right (by omega)] at hq
        rw [List.getElem?_append_left (by omega), hl] at e2
        obtain ⟨c, hc, hv⟩ := C.has (i - ps.length) y hq
        obtain ⟨u, ru, hu⟩ := hv v e2
        have hf := List.mem_of_getElem? hq
        exact ⟨u, ru, .inr ⟨.inr (S.frk y hf), c, capt hf hc, live hu⟩⟩
      · rw [List.getElem?_append_right (by omega), List.getElem?_replicate] at e2
        split at e2 <;> cases e2
  · rcases two e with e | e
    · exact ⟨_, x.cell y c e⟩
    · obtain ⟨_, v, z⟩ := C.all y c e
      exact ⟨v, live z⟩
  · rcases two e with e | e
    · exact e0.hok.fresh (Nat.le_of_lt (young e))
    · exact (C.all y c e).1
  · have clen := C.len
    unfold startF
    show _ = N.length
    rw [List.length_append, List.length_append, List.length_map, List.length_replicate]
    omega
end
end Own

namespace Own
open PySem PySem.Spec PyProof.Rows L2 SX RZ
/-! ### set(l) of a list of whole numbers, with what sorted(set(l)) asks of it -/
section
variable {P : Program} {w : World} {A : Around} {E : Value → Shared → Prop} {s : Shared}
end
section
variable {X : Cx} {K : PySem.W.Frag}
end
end Own

namespace Own
open PySem PySem.Spec PyProof.Rows L2 SX LamX NdefX
/-! ### a nested def that calls another one: the other one's cells beside its own -/
structure NO2 (P : Program) (w : World) (K : PySem.W.Frag) (mg : Str → Option Value) (base : Heap) (CX : CXT) (k : Nat) (f : Addr) (F : NF) (ps fr : List Str) (sp : List (Option V) → Sp) (cl2 : List (Str × Addr)) (fr2 : List Str) (ws2 : List (Option V)) : Prop where
  len : ∀ ws vs H Q E, sp ws vs H Q E → vs.length = ps.length
  run : ∀ (A : Around) (outer : List Env) (s : Shared) (H : Hp) (us : List Value) (vs : List V) (ws : List (Option V)) (Q : VK) (E : XK), Room k A → Env0 P w K mg base A outer s H → H f = some (FnO f F) → H F.c = some (CodeO F.c F.qual) →
    CellsAt F.cl fr ws s.heap H → CellsAt cl2 fr2 ws2 s.heap H → Vals vs us → sp ws vs H Q E → codeAny (model P w) A (.call (.ref f) ⟨us, []⟩) (CR CX outer P w H s Q E) s
section
variable {CX : CXT} {P : Program} {w : World} {K : PySem.W.Frag} {mg : Str → Option Value} {base : Heap} {N ps fr fr2 : List Str} {F : NF} {f : Addr} {k j : Nat} {sp : List (Option V) → Sp} {cl2 : List (Str × Addr)} {ws2 : List (Option V)}
theorem NO2.mono (o : NO2 P w K mg base CX j f F ps fr sp cl2 fr2 ws2) (h : j ≤ k) : NO2 P w K mg base CX k f F ps fr sp cl2 fr2 ws2 := ⟨o.len, fun A outer s H us vs ws Q E hr => o.run A outer s H us vs ws Q E (hr.mono h)⟩
end
end Own

namespace Own
open PySem PySem.Spec PyProof.Rows L2 SX LamX NdefX
section
variable {X : Cx}
end
end Own

namespace Own
open PySem PySem.Spec PyProof.Rows L2 SX GenW
/-! ### generators whose consumer changes some objects of its own while they sleep -/
/-- while the generator sleeps, only what stands at cs may change -/
structure Nap (cs : List Addr) (s s' : Shared) : Prop where
  os : s'.os = s.os
  bare : AllBare s'.gens
  keep : ∀ b o, b ∉ cs → s.heap.get? b = some o → s'.heap.get? b = some o
  held : ∀ c ∈ cs, ∃ o, s'.heap.get? c = some o ∧ ∀ v, o.data ≠ .cell v
/-- what the consumer changes is none of the generator's -/
structure Far (X : Cx) (cs : List Addr) (ip : List (Addr × Obj)) : Prop where
  young : ∀ c ∈ cs, X.s_0.heap.objs.size ≤ c
  cell : ∀ c ∈ cs, ∀ x d, X.env.cells.lookup x = some d → d ≠ c
  pins : ∀ p ∈ X.pn ++ ip, p.1 ∉ cs
/-- the generator runs: the consumer's objects stand as they stood when it was woken, at s₀ -/
def Run (X : Cx) (cs : List Addr) (ip : List (Addr × Obj)) (σ : L2.St) (H : Hp) (s₀ s : Shared) : Prop := ∃ cp : List (Addr × Obj), cp.map (·.1) = cs ∧ (∀ p ∈ cp, s₀.heap.get? p.1 = some p.2) ∧ Inv X (cp ++ ip) σ H s
section
variable {X : Cx} {cs : List Addr} {ip : List (Addr × Obj)} {σ : L2.St} {H : Hp} {s₀ s s' : Shared}
theorem Run.off (r : Run X cs ip σ H s₀ s) : ∀ c ∈ cs, H c = none ∧ c ≠ X.env.locals ∧ c ∉ X.fs ∧ ∃ o, s₀.heap.get? c = some o ∧ s.heap.get? c = some o := fun c hc => by
  obtain ⟨cp, e, e0, I⟩ := r
  rw [← e] at hc
  obtain ⟨p, hp, rfl⟩ := List.mem_map.mp hc
  obtain ⟨h1, h2, h3, h4, _⟩ := I.pin p (List.mem_append_right _ (List.mem_append_left _ hp))
  exact ⟨h2, h3, h4, p.2, e0 p hp, h1⟩
theorem Run.inv (r : Run X cs ip σ H s₀ s) : Inv X ip σ H s := by
  obtain ⟨cp, _, _, I⟩ := r
  exact I.pins_of fun p hp => I.pin p (List.mem_append_right _ (List.mem_append_right _ hp))
theorem Run.woken (F : Far X cs ip) (r : Run X cs ip σ H s₀ s) (z : Nap cs s s') : Run X cs ip σ H s' s' := by
  have off := r.off
  have I := r.inv
  obtain ⟨hh, g, d, t, o⟩ := s'
  have ho : o = s.os := z.os
  subst ho
  have J : Inv X ip σ H { s with heap := hh, gens := g, drawn := d, toks := t } := by
    refine I.step (g' := g) (t' := t) (d' := d) (ch := cs) (fun c hc => ⟨.inr (F.young c hc), (off c hc).2.1, F.cell c hc, fun p hp e => F.pins p hp (e ▸ hc)⟩)
      (fun b ob _ _ hc q _ => z.keep b ob hc q) (fun b ob _ _ hc q _ => ⟨ob.slots, z.keep b ob hc q⟩) (fun _ _ _ _ n => n) (fun b ob hc q => ⟨ob, z.keep b ob hc q⟩)
      (fun _ _ q => q) (fun _ _ _ q => q) (fun b ps q => ⟨#[], by rw [q]; simp⟩) (fun m hm => ?_) (fun b u q => ?_) z.bare
    · obtain ⟨ob, es, ep, ho, r⟩ := hm
      exact ⟨ob, es, ep, z.keep _ ob (fun hc => (off _ hc).2.1 rfl) ho, r⟩
    · refine (I.hok b u q).stay (fun c v hc y => z.keep c v (fun hm => ?_) y) (fun _ y => y) fun _ _ y => y
      have e := (off c hm).1
      rcases hc with y | y
      · rw [y, q] at e; cases e
      · rw [e] at y; cases y
  refine ⟨cs.map fun c => (c, (hh.get? c).getD { cls := .none, data := .fields #[] }), by rw [List.map_map]; exact List.map_id _, fun p hp => ?_, J.pins_of fun p hp => ?_⟩
  · obtain ⟨c, hc, rfl⟩ := List.mem_map.mp hp
    obtain ⟨ob, e, _⟩ := z.held c hc
    have e' : hh.get? c = some ob := e
    show hh.get? c = some ((hh.get? c).getD _)
    rw [e']; rfl
  rcases List.mem_append.mp hp with hp | hp
  · obtain ⟨c, hc, rfl⟩ := List.mem_map.mp hp
    obtain ⟨ob, e, nd⟩ := z.held c hc
    have e' : hh.get? c = some ob := e
    obtain ⟨h1, h2, h3, _⟩ := off c hc
    refine ⟨?_, h1, h2, h3, ?_⟩
    · show hh.get? c = some ((hh.get? c).getD _)
      rw [e']; rfl
    · show ∀ v, ((hh.get? c).getD _).data ≠ .cell v
      rw [e']; exact nd
  · exact J.pin p (List.mem_append_right _ hp)
end
/-- the k-th item of out is handed out -/
def Hand (X : Cx) (cs : List Addr) (out : List V) : Protocol := fun n s₀ v s kap => ∃ (k : Nat) (x : V), n + 1 + k = sizeLine ∧ out[k]? = some x ∧ RelV x v ∧ (∃ ip σ H, Run X cs ip σ H s₀ s) ∧ ∀ s', Nap cs s s' → kap (.send .none) s'
/-- what is wanted behind a statement of a generator, by the number of items that are out -/
structure EndsK where
  nx : Nat → L2.St → Hp → Prop
  rt : Nat → VK
  bk : Nat → L2.St → Hp → Prop := fun _ _ _ => False
  ct : Nat → L2.St → Hp → Prop := fun _ _ _ => False
def EndsK.at (D : EndsK) (k : Nat) : Ends := { nx := D.nx k, rt := D.rt k, bk := D.bk k, ct := D.ct k }
abbrev TK := EndsK → Nat → L2.St → Hp → Prop
def Got (X : Cx) (cs : List Addr) (ip : List (Addr × Obj)) (D : EndsK) (k : Nat) (s₀ : Shared) : Flow → Shared → Prop
  | .next, s => ∃ σ H, Run X cs ip σ H s₀ s ∧ D.nx k σ H
  | .brk, s => ∃ σ H, Run X cs ip σ H s₀ s ∧ D.bk k σ H
  | .cont, s => ∃ σ H, Run X cs ip σ H s₀ s ∧ D.ct k σ H
  | .ret u, s => ∃ v σ H, Run X cs ip σ H s₀ s ∧ RelV v u ∧ D.rt k v H
/-- where the code stands, and what follows a statement -/
structure Spot (X : Cx) (cs : List Addr) (ip : List (Addr × Obj)) (A : Around) (c : Code) (fs : List Frame) (gd : Bool → Bool) : Prop where
  far : Far X cs ip
  over : A.over c fs = X.A
  split : splitAtGen fs = none
  guard : fs.any Frame.guarded = false
  gd : gd false = false
structure Then (X : Cx) (cs : List Addr) (ip : List (Addr × Obj)) (out : List V) (A : Around) (R : GenEnd) (c : Code) (fs : List Frame) (K : Flow → Sem PySem.Fin) (J : Value → Sem PySem.Fin) (D : EndsK) : Prop where
  ok : ∀ (n k : Nat) (s₀ s : Shared) (f : Flow), n + k = sizeLine → Got X cs ip D k s₀ f s → Seg (model X.prog X.w) A R (Hand X cs out) n s₀ c (K f) fs s
  exc : ∀ (n : Nat) (s₀ : Shared) (e : Value) (s : Shared), X.xe e s → Seg (model X.prog X.w) A R (Hand X cs out) n s₀ c (J e) fs s
section
variable {X : Cx} {out : List V} {st : Stmt} {rest : List Stmt}
/-- what hands out nothing -/
def tSame (t : TS) : TK := fun D k σ H => t (D.at k) σ H
def tStop : TK := fun D k σ H => D.nx k σ H
def tOn (t u : TK) : TK := fun D k σ H => t { D with nx := u D } k σ H
end
end Own

namespace Own
open PySem PySem.Spec PyProof.Rows L2 SX GenW
/-! ### a run that does not wake some generators does the same whatever they are -/
/-- a frame that only looks like another -/
def dumF (f : Frame) : Frame := .ret (fun _ => .unsupported "asleep") none f.guarded [] f.where_.1 f.where_.2 []
/-- a generator that only looks like another: it cannot be woken -/
def pz : GenState → GenState
  | .suspended _ l c p fs cl => .suspended (fun _ => .unsupported "asleep") l c p (fs.map dumF) cl
  | x => x
def Sus : GenState → Prop
  | .suspended _ _ _ _ _ _ => True
  | _ => False
theorem seen_pz (x : GenState) : (pz x).seen = x.seen := by
  cases x with
  | suspended k l c p fs cl =>
    have e : (fs.map dumF).map Frame.where_ = fs.map Frame.where_ := by
      rw [List.map_map]
      exact List.map_congr_left fun f _ => rfl
    show (GenStatus.suspended, some ((c, p) :: (fs.map dumF).map Frame.where_)) = (GenStatus.suspended, some ((c, p) :: fs.map Frame.where_))
    rw [e]
  | _ => rfl
theorem split_dum : ∀ fs : List Frame, splitAtGen (fs.map dumF) = none
  | [] => rfl
  | f :: fs => by
    show (splitAtGen (fs.map dumF)).map _ = none
    rw [split_dum fs]; rfl
theorem bare_pz {x : GenState} (h : x.bare = true) : (pz x).bare = true := by cases x <;> exact h
/-- the table g, and the table G in which the generators told by O stand in the place of those that only look like them -/
def RelG (O : Nat → Option GenState) (g G : Array GenState) : Prop := G.size = g.size ∧ ∀ i, (∀ x, O i = some x → Sus x ∧ g[i]? = some (pz x) ∧ G[i]? = some x) ∧ (O i = none → G[i]? = g[i]?)
/-- no generator that sleeps has another one under it -/
def CleanG (g : Array GenState) : Prop := ∀ (i : Nat) k l c p fs cl, g[i]? = some (.suspended k l c p fs cl) → splitAtGen fs = none
def CleanE : End → Prop
  | .ret _ => True
  | .susp _ _ _ _ _ _ fs => splitAtGen fs = none
theorem split_ret {k h g l c p kp} {fs : List Frame} (e : splitAtGen (.ret k h g l c p kp :: fs) = none) : splitAtGen fs = none := by
  have e : (splitAtGen fs).map _ = none := e
  exact Option.map_eq_none_iff.mp e
theorem split_app : ∀ {a b : List Frame}, splitAtGen a = none → splitAtGen b = none → splitAtGen (a ++ b) = none
  | [], b, _, h => h
  | .gen _ _ _ _ _ :: a, b, h, _ => by cases h
  | .ret k hd g l c p kp :: a, b, h, hb => by
    show (splitAtGen (a ++ b)).map _ = none
    rw [split_app (split_ret h) hb]; rfl
theorem no_asleep {M : Model} {Γ : PySem.Ctx} {p : Pos} {w : String} {t : Sem PySem.Fin} {fs : List Frame} {s s' : Shared} {e : End} (h : Runs M Γ p t fs s e s') : t ≠ .unsupported w := by
  induction h with
  | segRet _ _ ih _ => exact ih
  | segGen _ _ ih _ => exact ih
  | segSuspOut _ _ ih => exact ih
  | segSuspGen _ _ _ _ ih _ => exact ih
  | _ => intro z; cases z
section
variable {O : Nat → Option GenState} {g G : Array GenState}
theorem RelG.at_none (r : RelG O g G) {i : Nat} {x : GenState} (e : g[i]? = some x) (n : ∀ y, O i = some y → False) : O i = none ∧ G[i]? = some x := by
  have z : O i = none := by
    cases q : O i with
    | none => rfl
    | some y => exact (n y q).elim
  exact ⟨z, by rw [(r.2 i).2 z]; exact e⟩
theorem RelG.set (r : RelG O g G) {i : Nat} {x : GenState} (z : O i = none) : RelG O (g.setIfInBounds i x) (G.setIfInBounds i x) := by
  refine ⟨by rw [Array.size_setIfInBounds, Array.size_setIfInBounds, r.1], fun j => ?_⟩
  by_cases hj : i = j
  · subst hj
    refine ⟨fun y hy => (by rw [z] at hy; cases hy), fun _ => ?_⟩
    rw [Array.getElem?_setIfInBounds_self, Array.getElem?_setIfInBounds_self, r.1]
  · rw [Array.getElem?_setIfInBounds_ne hj, Array.getElem?_setIfInBounds_ne hj]
    exact r.2 j
theorem RelG.push (r : RelG O g G) {x : GenState} : RelG O (g.push x) (G.push x) := by
  refine ⟨by rw [Array.size_push, Array.size_push, r.1], fun j => ⟨fun y hy => ?_, fun hn => ?_⟩⟩
  · obtain ⟨a, b, c⟩ := (r.2 j).1 y hy
    have l1 := (Array.getElem?_eq_some_iff.mp b).1
    have l2 := (Array.getElem?_eq_some_iff.mp c).1
    refine ⟨a, ?_, ?_⟩
    · rw [Array.getElem?_push_lt l1, ← b, Array.getElem?_eq_getElem l1]
    · rw [Array.getElem?_push_lt l2, ← c, Array.getElem?_eq_getElem l2]
  · rw [Array.getElem?_push, Array.getElem?_push, r.1, (r.2 j).2 hn]
theorem CleanG.set (c : CleanG g) {i : Nat} {x : GenState} (hx : ∀ k l d p fs cl, x = .suspended k l d p fs cl → splitAtGen fs = none) : CleanG (g.setIfInBounds i x) := fun j k l d p fs cl e => by
  by_cases hj : i = j
  · subst hj
    rw [Array.getElem?_setIfInBounds_self] at e
    split at e
    · exact hx k l d p fs cl (Option.some.inj e)
    · cases e
  · rw [Array.getElem?_setIfInBounds_ne hj] at e
    exact c j k l d p fs cl e
theorem CleanG.push (c : CleanG g) {d : Code} : CleanG (g.push (.fresh d)) := fun j k l d p fs cl e => by
  rw [Array.getElem?_push] at e
  split at e
  · cases e
  · exact c j k l d p fs cl e
end
theorem cleanE_state {e : End} (h : CleanE e) : ∀ k l d p fs cl, e.genState = .suspended k l d p fs cl → splitAtGen fs = none := by
  intro k l d p fs cl q
  cases e with
  | ret r => cases q
  | susp v g l' k' c' p' fs' => cases q; exact h
theorem runs_sim {M : Model} {O : Nat → Option GenState} {Γ : PySem.Ctx} {p : Pos} {t : Sem PySem.Fin} {fs : List Frame} {s s' : Shared} {e : End} (h : Runs M Γ p t fs s e s') :
    CleanG s.gens → splitAtGen fs = none → ∀ G, RelG O s.gens G → CleanG s'.gens ∧ CleanE e ∧ ∃ G', RelG O s'.gens G' ∧ Runs M Γ p t fs { s with gens := G } e { s' with gens := G' } := by
  induction h with
  | done => intro c _ G r; exact ⟨c, True.intro, G, r, .done⟩
  | raise => intro c _ G r; exact ⟨c, True.intro, G, r, .raise⟩
  | again hq _ ih => intro c f G r; obtain ⟨a, b, G', r', q⟩ := ih c f G r; exact ⟨a, b, G', r', .again hq q⟩
  | rule _ ih => intro c f G r; obtain ⟨a, b, G', r', q⟩ := ih c f G r; exact ⟨a, b, G', r', .rule q⟩
  | «at» _ ih => intro c f G r; obtain ⟨a, b, G', r', q⟩ := ih c f G r; exact ⟨a, b, G', r', .at q⟩
  | load ho _ ih => intro c f G r; obtain ⟨a, b, G', r', q⟩ := ih c f G r; exact ⟨a, b, G', r', .load ho q⟩
  | update ho _ ih => intro c f G r; obtain ⟨a, b, G', r', q⟩ := ih c f G r; exact ⟨a, b, G', r', .update ho q⟩
  | loadIfAlive _ ih => intro c f G r; obtain ⟨a, b, G', r', q⟩ := ih c f G r; exact ⟨a, b, G', r', .loadIfAlive q⟩
  | point _ ih => intro c f G r; obtain ⟨a, b, G', r', q⟩ := ih c f G r; exact ⟨a, b, G', r', .point q⟩
  | alloc _ ih => intro c f G r; obtain ⟨a, b, G', r', q⟩ := ih c f G r; exact ⟨a, b, G', r', .alloc q⟩
  | fresh _ ih => intro c f G r; obtain ⟨a, b, G', r', q⟩ := ih c f G r; exact ⟨a, b, G', r', .fresh q⟩
  | ask _ ih => intro c f G r; obtain ⟨a, b, G', r', q⟩ := ih c f G r; exact ⟨a, b, G', r', .ask q⟩
  | choose hn _ ih => intro c f G r; obtain ⟨a, b, G', r', q⟩ := ih c f G r; exact ⟨a, b, G', r', .choose hn q⟩
  | os _ ih => intro c f G r; obtain ⟨a, b, G', r', q⟩ := ih c f G r; exact ⟨a, b, G', r', .os q⟩
  | handled _ ih => intro c f G r; obtain ⟨a, b, G', r', q⟩ := ih c f G r; exact ⟨a, b, G', r', .handled q⟩
  | stack _ ih => intro c f G r; obtain ⟨a, b, G', r', q⟩ := ih c f G r; exact ⟨a, b, G', r', .stack q⟩
  | thread _ ih => intro c f G r; obtain ⟨a, b, G', r', q⟩ := ih c f G r; exact ⟨a, b, G', r', .thread q⟩
  | @genState i st Γ p k s e s' hst _ ih =>
    intro c f G r
    obtain ⟨a, b, G', r', q⟩ := ih c f G r
    cases z : O i with
    | none => exact ⟨a, b, G', r', .genState (s := { s with gens := G }) (((r.2 i).2 z).trans hst) q⟩
    | some x =>
      obtain ⟨_, h1, h2⟩ := (r.2 i).1 x z
      rw [hst] at h1
      have h1 := Option.some.inj h1
      subst h1
      rw [seen_pz] at q
      exact ⟨a, b, G', r', .genState (s := { s with gens := G }) h2 q⟩
  | newGen _ ih =>
    intro c f G r
    obtain ⟨a, b, G', r', q⟩ := ih c.push f _ r.push
    refine ⟨a, b, G', r', .newGen ?_⟩
    rw [← r.1] at q
    exact q
  | call _ _ ih1 ih2 =>
    intro c f G r
    obtain ⟨a, b, G', r', q⟩ := ih1 c rfl G r
    obtain ⟨a2, b2, G2, r2, q2⟩ := ih2 a rfl G' r'
    exact ⟨a2, b2, G2, r2, .call q q2⟩
  | callSusp _ ih =>
    intro c f G r
    obtain ⟨a, b, G', r', q⟩ := ih c rfl G r
    exact ⟨a, split_app b rfl, G', r', .callSusp q⟩
  | yield => intro c _ G r; exact ⟨c, rfl, G, r, .yield⟩
  | @resumeFresh Γ p i l k s d e₁ s₁ e s' hst _ hq _ ih1 ih2 =>
    intro c f G r
    obtain ⟨z, hG⟩ := r.at_none hst fun y hy => by
      obtain ⟨h0, h1, _⟩ := (r.2 i).1 y hy
      rw [hst] at h1
      cases y with
      | suspended => cases h1
      | _ => exact h0.elim
    obtain ⟨a, b, G', r', q⟩ := ih1 (c.set fun _ _ _ _ _ _ w => nomatch w) rfl (G.setIfInBounds i .running) (r.set z)
    obtain ⟨a2, b2, G2, r2, q2⟩ := ih2 (a.set (cleanE_state b)) rfl (G'.setIfInBounds i e₁.genState) (r'.set z)
    exact ⟨a2, b2, G2, r2, .resumeFresh (s := { s with gens := G }) hG q hq q2⟩
  | @resumeSuspended Γ p i w l k s k₀ l₀ c₀ p₀ fs cl e₁ s₁ e s' hst h1 hq _ ih1 ih2 =>
    intro c f G r
    obtain ⟨z, hG⟩ := r.at_none hst fun y hy => by
      obtain ⟨h0, h2, _⟩ := (r.2 i).1 y hy
      rw [hst] at h2
      cases y with
      | suspended _ _ _ _ _ _ =>
        have h2 := Option.some.inj h2
        injection h2 with h3 _ _ _ _ _
        rw [h3] at h1
        exact no_asleep h1 rfl
      | _ => exact h0.elim
    obtain ⟨a, b, G', r', q⟩ := ih1 (c.set fun _ _ _ _ _ _ w => nomatch w) (c i _ _ _ _ _ _ hst) (G.setIfInBounds i .running) (r.set z)
    obtain ⟨a2, b2, G2, r2, q2⟩ := ih2 (a.set (cleanE_state b)) rfl (G'.setIfInBounds i e₁.genState) (r'.set z)
    exact ⟨a2, b2, G2, r2, .resumeSuspended (s := { s with gens := G }) hG q hq q2⟩
  | @resumeJustStarted i v Γ p k s e s' l d hst hv _ ih =>
    intro c f G r
    obtain ⟨z, hG⟩ := r.at_none hst fun y hy => by
      obtain ⟨h0, h1, _⟩ := (r.2 i).1 y hy
      rw [hst] at h1
      cases y with
      | suspended => cases h1
      | _ => exact h0.elim
    obtain ⟨a, b, G', r', q⟩ := ih c f G r
    exact ⟨a, b, G', r', .resumeJustStarted (s := { s with gens := G }) hG hv q⟩
  | @resumeThrowFresh i Γ p k e s' x l s d hst _ ih =>
    intro c f G r
    obtain ⟨z, hG⟩ := r.at_none hst fun y hy => by
      obtain ⟨h0, h1, _⟩ := (r.2 i).1 y hy
      rw [hst] at h1
      cases y with
      | suspended => cases h1
      | _ => exact h0.elim
    obtain ⟨a, b, G', r', q⟩ := ih (c.set fun _ _ _ _ _ _ w => nomatch w) rfl (G.setIfInBounds i .finished) (r.set z)
    exact ⟨a, b, G', r', .resumeThrowFresh (s := { s with gens := G }) hG q⟩
  | @resumeRunning i Γ p k s e s' w l hst _ ih =>
    intro c f G r
    obtain ⟨z, hG⟩ := r.at_none hst fun y hy => by
      obtain ⟨h0, h1, _⟩ := (r.2 i).1 y hy
      rw [hst] at h1
      cases y with
      | suspended => cases h1
      | _ => exact h0.elim
    obtain ⟨a, b, G', r', q⟩ := ih c f G r
    exact ⟨a, b, G', r', .resumeRunning (s := { s with gens := G }) hG q⟩
  | @resumeFinished i Γ p k s e s' w l hst _ ih =>
    intro c f G r
    obtain ⟨z, hG⟩ := r.at_none hst fun y hy => by
      obtain ⟨h0, h1, _⟩ := (r.2 i).1 y hy
      rw [hst] at h1
      cases y with
      | suspended => cases h1
      | _ => exact h0.elim
    obtain ⟨a, b, G', r', q⟩ := ih c f G r
    exact ⟨a, b, G', r', .resumeFinished (s := { s with gens := G }) hG q⟩
  | segRet _ _ ih1 ih2 =>
    intro c f G r
    obtain ⟨a, b, G', r', q⟩ := ih1 c rfl G r
    obtain ⟨a2, b2, G2, r2, q2⟩ := ih2 a (split_ret f) G' r'
    exact ⟨a2, b2, G2, r2, .segRet q q2⟩
  | segGen _ _ _ _ => intro c f G r; cases f
  | segSuspOut hs _ ih =>
    intro c f G r
    obtain ⟨a, b, G', r', q⟩ := ih c rfl G r
    exact ⟨a, split_app b f, G', r', .segSuspOut hs q⟩
  | segSuspGen hs _ _ _ _ _ => intro c f G r; rw [f] at hs; cases hs

/-- t is s with its generators in the place of those that only look like them -/
def Sim (O : Nat → Option GenState) (s t : Shared) : Prop := CleanG s.gens ∧ RelG O s.gens t.gens ∧ t = { s with gens := t.gens }
theorem Sim.at {O : Nat → Option GenState} {s : Shared} {G : Array GenState} (c : CleanG s.gens) (r : RelG O s.gens G) : Sim O s { s with gens := G } := ⟨c, r, rfl⟩
theorem wakes_sim {M : Model} {O : Nat → Option GenState} {Γ : PySem.Ctx} {p : Pos} {i : Nat} {w : Resume} {s s' t : Shared} {res : GenResult} (S : Sim O s t) (h : Wakes M Γ p i w s res s') : ∃ t', Sim O s' t' ∧ Wakes M Γ p i w t res t' := by
  obtain ⟨c, r, e⟩ := S
  generalize t.gens = G at r e
  subst e
  unfold Wakes at h
  split at h
  · exact h.elim
  · rename_i d hst
    obtain ⟨z, hG⟩ := r.at_none hst fun y hy => by
      obtain ⟨h0, h1, _⟩ := (r.2 i).1 y hy
      rw [hst] at h1
      cases y with
      | suspended => cases h1
      | _ => exact h0.elim
    split at h
    · obtain ⟨e₁, s₁, hr, hq, rfl, rfl⟩ := h
      obtain ⟨a, b, G', r', q⟩ := runs_sim hr (c.set fun _ _ _ _ _ _ w => nomatch w) rfl (G.setIfInBounds i .running) (r.set z)
      refine ⟨_, .at (a.set (cleanE_state b)) (r'.set z), ?_⟩
      unfold Wakes
      show match G[i]? with | _ => _
      rw [hG]
      exact ⟨e₁, _, q, hq, rfl, rfl⟩
    · obtain ⟨rfl, rfl⟩ := h
      refine ⟨_, .at c r, ?_⟩
      unfold Wakes
      show match G[i]? with | _ => _
      rw [hG]
      rename_i v hv
      cases v with
      | none => exact (hv rfl).elim
      | _ => exact ⟨rfl, rfl⟩
    · obtain ⟨rfl, rfl⟩ := h
      refine ⟨_, .at (c.set fun _ _ _ _ _ _ w => nomatch w) (r.set z), ?_⟩
      unfold Wakes
      show match G[i]? with | _ => _
      rw [hG]
      exact ⟨rfl, rfl⟩
  · rename_i k₀ l₀ c₀ p₀ fs cl hst
    obtain ⟨e₁, s₁, hr, hq, rfl, rfl⟩ := h
    obtain ⟨z, hG⟩ := r.at_none hst fun y hy => by
      obtain ⟨h0, h2, _⟩ := (r.2 i).1 y hy
      rw [hst] at h2
      cases y with
      | suspended _ _ _ _ _ _ =>
        have h2 := Option.some.inj h2
        injection h2 with h3 _ _ _ _ _
        rw [h3] at hr
        exact no_asleep hr rfl
      | _ => exact h0.elim
    obtain ⟨a, b, G', r', q⟩ := runs_sim hr (c.set fun _ _ _ _ _ _ w => nomatch w) (c i _ _ _ _ _ _ hst) (G.setIfInBounds i .running) (r.set z)
    refine ⟨_, .at (a.set (cleanE_state b)) (r'.set z), ?_⟩
    unfold Wakes
    show match G[i]? with | _ => _
    rw [hG]
    exact ⟨e₁, _, q, hq, rfl, rfl⟩
  · rename_i hst
    obtain ⟨rfl, rfl⟩ := h
    obtain ⟨z, hG⟩ := r.at_none hst fun y hy => by
      obtain ⟨h0, h1, _⟩ := (r.2 i).1 y hy
      rw [hst] at h1
      cases y with
      | suspended => cases h1
      | _ => exact h0.elim
    refine ⟨_, .at c r, ?_⟩
    unfold Wakes
    show match G[i]? with | _ => _
    rw [hG]
    exact ⟨rfl, rfl⟩
  · rename_i hst
    obtain ⟨rfl, rfl⟩ := h
    obtain ⟨z, hG⟩ := r.at_none hst fun y hy => by
      obtain ⟨h0, h1, _⟩ := (r.2 i).1 y hy
      rw [hst] at h1
      cases y with
      | suspended => cases h1
      | _ => exact h0.elim
    refine ⟨_, .at c r, ?_⟩
    unfold Wakes
    show match G[i]? with | _ => _
    rw [hG]
    exact ⟨rfl, rfl⟩
theorem wp_sim {α : Type} {M : Model} {O : Nat → Option GenState} {Γ : PySem.Ctx} (x : Sem α) : ∀ (Q : α → Pos → Shared → Prop) (E : Value → Pos → Shared → Prop) (p : Pos) (s t : Shared), Sim O s t → Sem.wp M Γ x Q E p s →
    Sem.wp M Γ x (fun a p' t' => ∃ s', Sim O s' t' ∧ Q a p' s') (fun e p' t' => ∃ s', Sim O s' t' ∧ E e p' s') p t := by
  induction x with
  | pure a => intro Q E p s t S h; exact ⟨s, S, h⟩
  | raise e => intro Q E p s t S h; exact ⟨s, S, h⟩
  | unsupported _ => intro Q E p s t _ h; exact h
  | finish _ => intro Q E p s t _ h; exact h
  | register _ _ => intro Q E p s t _ h; exact h
  | yield _ _ _ _ => intro Q E p s t _ h; exact h
  | fork _ _ => intro Q E p s t _ h; exact h
  | await _ _ _ _ _ => intro Q E p s t _ h; exact h
  | rule _ k ih => intro Q E p s t S h; exact ih () Q E p s t S h
  | «at» p' k ih => intro Q E p s t S h; exact ih () Q E p' s t S h
  | point _ k ih => intro Q E p s t S h; exact ih () Q E p s t S h
  | ask k ih => intro Q E p s t S h; exact ih _ Q E p s t S h
  | handled own k ih => intro Q E p s t S h; exact ih _ Q E p s t S h
  | stack k ih => intro Q E p s t S h; exact ih _ Q E p s t S h
  | thread k ih => intro Q E p s t S h; exact ih _ Q E p s t S h
  | load a _ k ih => intro Q E p s t S h; obtain ⟨o, ho, h⟩ := h; exact ⟨o, by rw [S.2.2]; exact ho, ih o Q E p s t S h⟩
  | loadIfAlive a k ih =>
    intro Q E p s t S h
    have e : t.heap.get? a = s.heap.get? a := by rw [S.2.2]
    show Sem.wp M Γ (k (t.heap.get? a)) _ _ p t
    rw [e]
    exact ih _ Q E p s t S h
  | update a _ f k ih =>
    intro Q E p s t S h
    obtain ⟨c, r, e⟩ := S
    generalize t.gens = G at r e
    subst e
    exact ⟨h.1, ih () Q E p _ _ (Sim.at (s := { s with heap := s.heap.update a f }) c r) h.2⟩
  | alloc o k ih =>
    intro Q E p s t S h
    obtain ⟨c, r, e⟩ := S
    generalize t.gens = G at r e
    subst e
    exact ih _ Q E p _ _ (Sim.at (s := { s with heap := s.heap.push o }) c r) h
  | fresh k ih =>
    intro Q E p s t S h
    obtain ⟨c, r, e⟩ := S
    generalize t.gens = G at r e
    subst e
    exact ih _ Q E p _ _ (Sim.at (s := { s with toks := s.toks + 1 }) c r) h
  | choose src m k ih =>
    intro Q E p s t S h
    obtain ⟨c, r, e⟩ := S
    generalize t.gens = G at r e
    subst e
    exact ⟨h.1, ih _ Q E p _ _ (Sim.at (s := { s with drawn := s.drawn.bump src }) c r) h.2⟩
  | os q _ k ih =>
    intro Q E p s t S h
    obtain ⟨c, r, e⟩ := S
    generalize t.gens = G at r e
    subst e
    exact ih _ Q E p _ _ (Sim.at (s := { s with os := (Os.step s.os q).1 }) c r) h
  | call d hd _ _ k ih =>
    intro Q E p s t S h
    obtain ⟨y, s', hr, h⟩ := h
    obtain ⟨c, r, e⟩ := S
    obtain ⟨a, b, G', r', q⟩ := runs_sim hr c rfl t.gens r
    rw [← e] at q
    exact ⟨y, _, q, ih y Q E p s' _ (Sim.at a r') h⟩
  | genState g k ih =>
    intro Q E p s t S h
    obtain ⟨st, hs, h⟩ := h
    obtain ⟨c, r, e⟩ := id S
    cases z : O g with
    | none => exact ⟨st, ((r.2 g).2 z).trans hs, ih _ Q E p s t S h⟩
    | some x =>
      obtain ⟨_, h1, h2⟩ := (r.2 g).1 x z
      rw [hs] at h1
      have h1 := Option.some.inj h1
      subst h1
      rw [seen_pz] at h
      exact ⟨x, h2, ih _ Q E p s t S h⟩
  | newGen d k ih =>
    intro Q E p s t S h
    obtain ⟨c, r, e⟩ := S
    generalize t.gens = G at r e
    subst e
    show Sem.wp M Γ (k G.size) _ _ p { s with gens := G.push (.fresh d) }
    rw [r.1]
    exact ih _ Q E p { s with gens := s.gens.push (.fresh d) } { s with gens := G.push (.fresh d) } ⟨c.push, r.push, rfl⟩ h
  | resume g w _ k ih =>
    intro Q E p s t S h
    obtain ⟨res, s', hw, h⟩ := h
    obtain ⟨t', S', hw'⟩ := wakes_sim S hw
    exact ⟨res, t', hw', ih res Q E p s' t' S' h⟩
section
variable {α : Type} {M : Model} {A : Around} {O : Nat → Option GenState} {s t : Shared} {x : Sem α} {Q : α → Shared → Prop} {E : Value → Shared → Prop}
theorem wpAny_sim (S : Sim O s t) (h : wpAny M A x Q E s) : wpAny M A x (fun a t' => ∃ s', Sim O s' t' ∧ Q a s') (fun e t' => ∃ s', Sim O s' t' ∧ E e s') t :=
  fun Γ p hΓ => wp_sim x _ _ p s t S (h Γ p hΓ)
theorem sim_same (c : CleanG s.gens) : Sim (fun _ => none) s s := ⟨c, ⟨rfl, fun i => ⟨fun y h => (nomatch h), fun _ => rfl⟩⟩, rfl⟩
theorem Sim.eq (S : Sim (fun _ => none) s t) : t = s := by
  obtain ⟨c, r, e⟩ := S
  have : t.gens = s.gens := Array.ext_getElem? fun i => (r.2 i).2 rfl
  rw [e, this]
theorem wpAny_clean (c : CleanG s.gens) (h : wpAny M A x Q E s) : wpAny M A x (fun a s' => CleanG s'.gens ∧ Q a s') (fun e s' => CleanG s'.gens ∧ E e s') s :=
  wpAny_mono (wpAny_sim (sim_same c) h) (fun _ _ ⟨s', S, q⟩ => by rw [S.eq]; exact ⟨S.1, q⟩) fun _ _ ⟨s', S, q⟩ => by rw [S.eq]; exact ⟨S.1, q⟩
end
/-- the table with all that sleeps exchanged -/
def sleepers (g : Array GenState) : Nat → Option GenState := fun i => match g[i]? with
  | some (.suspended k l c p fs cl) => some (.suspended k l c p fs cl)
  | _ => none
theorem rel_sleepers (g : Array GenState) : RelG (sleepers g) (g.map pz) g := by
  refine ⟨by rw [Array.size_map], fun i => ?_⟩
  rw [Array.getElem?_map]
  unfold sleepers
  cases e : g[i]? with
  | none => exact ⟨fun y h => (by simp at h), fun _ => rfl⟩
  | some x =>
    cases x with
    | suspended k l c p fs cl => exact ⟨fun y h => (by cases h; exact ⟨trivial, rfl, rfl⟩), fun h => nomatch h⟩
    | _ => exact ⟨fun y h => (by simp at h), fun _ => rfl⟩
theorem clean_sleepers (g : Array GenState) : CleanG (g.map pz) := fun i k l c p fs cl e => by
  rw [Array.getElem?_map] at e
  cases q : g[i]? with
  | none => rw [q] at e; cases e
  | some x =>
    rw [q] at e
    cases x with
    | suspended k' l' c' p' fs' cl' =>
      have e := Option.some.inj e
      have e : GenState.suspended _ l' c' p' (fs'.map dumF) cl' = .suspended k l c p fs cl := e
      injection e with _ _ _ _ e5 _
      rw [← e5]
      exact split_dum fs'
    | _ => cases e
theorem bare_map {g : Array GenState} (b : AllBare g) : AllBare (g.map pz) := fun y hy => by
  obtain ⟨x, hx, rfl⟩ := Array.mem_map.mp hy
  exact bare_pz (b x hx)
theorem bare_rel {O : Nat → Option GenState} {g G : Array GenState} (r : RelG O g G) (b : AllBare g) (bo : ∀ i x, O i = some x → x.bare = true) : AllBare G := fun y hy => by
  obtain ⟨i, hi, e⟩ := Array.mem_iff_getElem.mp hy
  have e : G[i]? = some y := by rw [Array.getElem?_eq_getElem hi, e]
  cases z : O i with
  | some x =>
    obtain ⟨_, _, h⟩ := (r.2 i).1 x z
    rw [e] at h
    cases h
    exact bo i y z
  | none =>
    rw [(r.2 i).2 z] at e
    exact b y (Array.mem_of_getElem? e)
end Own

namespace Own
open PySem PySem.Spec PyProof.Rows L2 SX GenW
/-! ### loops in generators -/
/-- what a loop's own code does with an exception of a turn -/
abbrev noted (env : Env) (e : Value) : Sem PySem.Fin := (do noteFrame e env; theTreesLotGoes e : Sem Unit).wrap (fun _ => .raise e) .raise id id
section
variable {prog : Program} {w : World} {A : Around} {R : GenEnd} {Y : Protocol} {n : Nat} {s₀ s : Shared} {fs : List Frame} {env : Env}
end
/-- the frame under a loop's code -/
abbrev back (env : Env) (x : Value) : Sem Unit := do
  if (← field x 1) == Value.none then unsupported "frame.own-activation:exception-without-traceback"
  setFlight x env.frame
abbrev under (env : Env) (K : Flow → Sem PySem.Fin) (J : Value → Sem PySem.Fin) (gd : Bool → Bool) (lv : List Value → List Value) : Result → Sem PySem.Fin :=
  fun r => ((match r with | .ok f => (.pure f : Sem Flow) | .error e => .raise e).onRaise (back env)).wrap K J gd lv
abbrev loopF (env : Env) (K : Flow → Sem PySem.Fin) (J : Value → Sem PySem.Fin) (gd : Bool → Bool) (lv : List Value → List Value) (c : Code) (p : Pos) : Frame := .ret (under env K J gd lv) none (gd false) (lv []) c p []
section
variable {X : Cx} {cs : List Addr} {ip : List (Addr × Obj)} {out : List V} {A : Around} {R : GenEnd} {c : Code} {fs : List Frame} {K : Flow → Sem PySem.Fin} {J : Value → Sem PySem.Fin} {gd : Bool → Bool} {lv : List Value → List Value} {D : EndsK} {n k : Nat} {s₀ s : Shared}
theorem Spot.loop {c' : Code} {p : Pos} (g : Spot X cs ip A c fs gd) (hw : c'.weight = 0) (hu : c'.cUnits = 0) : Spot X cs ip A c' (loopF X.env K J gd lv c p :: fs) id where
  far := g.far
  over := (over_loop hw hu).trans g.over
  split := by
    show Option.map _ (splitAtGen fs) = none
    rw [g.split]; rfl
  guard := by
    show (gd false || _) = false
    rw [g.gd, Bool.false_or]
    exact g.guard
  gd := rfl
/-- an exception of a turn leaves the loop -/
theorem Then.leave {c' : Code} {p : Pos} {e : Value} (hp : PassesOwn (model X.prog X.w) X.A X.env X.xe) (g : Spot X cs ip A c fs gd) (f : Then X cs ip out A R c fs K J D) (hw : c'.weight = 0) (hu : c'.cUnits = 0) (h : X.xe e s) :
    Seg (model X.prog X.w) A R (Hand X cs out) n s₀ c' (noted X.env e) (loopF X.env K J gd lv c p :: fs) s := by
  have raised : ∀ (n : Nat) (s₀ : Shared) (e : Value) (s : Shared), cameBackBy (model X.prog X.w) X.A X.env X.xe e s → Seg (model X.prog X.w) A R (Hand X cs out) n s₀ c (under X.env K J gd lv (.error e)) fs s := by
    intro n s₀ e s h
    have q : under X.env K J gd lv (.error e) = (back X.env e).wrap (fun _ => J e) J gd lv := by
      show ((back X.env e).bind fun _ => (Sem.raise e : Sem Flow)).wrap K J gd lv = _
      rw [Sem.bind_eq_wrap, Sem.wrap_wrap]
      rfl
    rw [q]
    refine seg_wrap ?_
    rw [g.over]
    exact wpAny_mono h (fun _ s' hx => f.exc n s₀ e s' hx) fun x s' hx => f.exc n s₀ x s' hx
  refine seg_wrap ?_
  rw [(g.loop (K := K) (J := J) (lv := lv) (p := p) hw hu).over]
  exact wpAny_bind (wpAny_mono (hp e s h) (fun _ s' hb => wpAny_theTreesLotGoes (seg_leaf (.error e) (raised n s₀ e s' hb))) fun y s' hb => seg_leaf (.error y) (raised n s₀ y s' hb))
/-- while -/
def tWhileK (tc : TT) (tb : TK) : TK := fun D k σ H => ∃ W : Nat → Nat → L2.St → Hp → Prop, (∃ m, W m k σ H) ∧ ∀ m k σ H, W m k σ H → tc σ H fun b H1 =>
  if b = true then ∃ N : Nat → L2.St → Hp → Prop, (∀ k' σ' H', N k' σ' H' → ∃ m', m' < m ∧ W m' k' σ' H') ∧ tb { D with nx := N, ct := N, bk := D.nx } k σ H1 else D.nx k σ H1
end
end Own

namespace Own
open PySem PySem.Spec PyProof.Rows L2 SX GenW
/-! ### a generator def by its body: what it hands out is known beforehand -/
abbrev EN : XK := fun _ _ _ => False
section
variable {P : Program} {w : World} {K : PySem.W.Frag} {mg : Str → Option Value} {base : Heap}
end
end Own

namespace Own
open PySem PySem.Spec PyProof.Rows L2 SX GenW
/-! ### what is gone stays gone; heaps cut off -/
/-- nothing comes back -/
def Onw (h h' : Heap) : Prop := h.objs.size ≤ h'.objs.size ∧ ∀ b, b < h.objs.size → h.get? b = none → h'.get? b = none
theorem Onw.refl {h : Heap} : Onw h h := ⟨Nat.le_refl _, fun _ _ e => e⟩
theorem Onw.trans {a b c : Heap} (x : Onw a b) (y : Onw b c) : Onw a c := ⟨Nat.le_trans x.1 y.1, fun d hd e => y.2 d (Nat.lt_of_lt_of_le hd x.1) (x.2 d hd e)⟩
theorem onw_push {h : Heap} {o : Obj} : Onw h (h.push o) := by
  refine ⟨by rw [Heap.size_push]; exact Nat.le_succ _, fun b hb e => ?_⟩
  have q : (h.push o).objs[b]? = h.objs[b]? := by
    cases h
    show (Array.push _ o)[b]? = _
    rw [Array.getElem?_push_lt hb, Array.getElem?_eq_getElem hb]
  unfold Heap.get? at e ⊢
  rw [q]; exact e
theorem onw_update {h : Heap} {a : Addr} {f : Obj → Obj} (ha : (h.get? a).isSome) : Onw h (h.update a f) := by
  refine ⟨by rw [Heap.size_update]; exact Nat.le_refl _, fun b hb e => ?_⟩
  have ne : b ≠ a := fun z => by rw [← z, e] at ha; cases ha
  rw [Heap.get?_update_ne _ _ _ _ ne]; exact e
theorem runs_onw {M : Model} {Γ : PySem.Ctx} {p : Pos} {t : Sem PySem.Fin} {fs : List Frame} {s s' : Shared} {e : End} (h : Runs M Γ p t fs s e s') : Onw s.heap s'.heap := by
  induction h with
  | done => exact .refl
  | raise => exact .refl
  | yield => exact .refl
  | update ha _ ih => exact (onw_update ha).trans ih
  | alloc _ ih => exact onw_push.trans ih
  | call _ _ a b => exact a.trans b
  | resumeFresh _ _ _ _ a b => exact a.trans b
  | resumeSuspended _ _ _ _ a b => exact a.trans b
  | segRet _ _ a b => exact a.trans b
  | segGen _ _ a b => exact a.trans b
  | segSuspGen _ _ _ _ a b => exact a.trans b
  | _ => assumption
theorem wakes_onw {M : Model} {Γ : PySem.Ctx} {p : Pos} {i : Nat} {w : Resume} {s s' : Shared} {res : GenResult} (h : Wakes M Γ p i w s res s') : Onw s.heap s'.heap := by
  unfold Wakes at h
  split at h
  · exact h.elim
  · split at h
    · obtain ⟨e₁, s₁, hr, _, _, rfl⟩ := h
      exact (runs_onw (s := s.setGen i .running) hr : Onw s.heap s₁.heap)
    · rw [h.2]; exact .refl
    · rw [h.2]; exact .refl
  · obtain ⟨e₁, s₁, hr, _, _, rfl⟩ := h
    exact (runs_onw (s := s.setGen i .running) hr : Onw s.heap s₁.heap)
  · rw [h.2]; exact .refl
  · rw [h.2]; exact .refl
theorem wp_onw {α : Type} {M : Model} {Γ : PySem.Ctx} {h0 : Heap} (x : Sem α) : ∀ (Q : α → Pos → Shared → Prop) (E : Value → Pos → Shared → Prop) (p : Pos) (s : Shared), Onw h0 s.heap → Sem.wp M Γ x Q E p s →
    Sem.wp M Γ x (fun a p' t' => Onw h0 t'.heap ∧ Q a p' t') (fun e p' t' => Onw h0 t'.heap ∧ E e p' t') p s := by
  induction x with
  | pure a => intro Q E p s n h; exact ⟨n, h⟩
  | raise e => intro Q E p s n h; exact ⟨n, h⟩
  | unsupported _ => intro Q E p s _ h; exact h
  | finish _ => intro Q E p s _ h; exact h
  | register _ _ => intro Q E p s _ h; exact h
  | yield _ _ _ _ => intro Q E p s _ h; exact h
  | fork _ _ => intro Q E p s _ h; exact h
  | await _ _ _ _ _ => intro Q E p s _ h; exact h
  | rule _ k ih => intro Q E p s n h; exact ih () Q E p s n h
  | «at» p' k ih => intro Q E p s n h; exact ih () Q E p' s n h
  | point _ k ih => intro Q E p s n h; exact ih () Q E p s n h
  | ask k ih => intro Q E p s n h; exact ih _ Q E p s n h
  | handled own k ih => intro Q E p s n h; exact ih _ Q E p s n h
  | stack k ih => intro Q E p s n h; exact ih _ Q E p s n h
  | thread k ih => intro Q E p s n h; exact ih _ Q E p s n h
  | load a _ k ih => intro Q E p s n h; obtain ⟨o, ho, h⟩ := h; exact ⟨o, ho, ih o Q E p s n h⟩
  | loadIfAlive a k ih => intro Q E p s n h; exact ih _ Q E p s n h
  | update a _ f k ih => intro Q E p s n h; exact ⟨h.1, ih () Q E p { s with heap := s.heap.update a f } (n.trans (onw_update h.1)) h.2⟩
  | alloc o k ih => intro Q E p s n h; exact ih _ Q E p { s with heap := s.heap.push o } (n.trans onw_push) h
  | fresh k ih => intro Q E p s n h; exact ih _ Q E p { s with toks := s.toks + 1 } n h
  | choose src m k ih => intro Q E p s n h; exact ⟨h.1, ih _ Q E p { s with drawn := s.drawn.bump src } n h.2⟩
  | os q _ k ih => intro Q E p s n h; exact ih _ Q E p { s with os := (Os.step s.os q).1 } n h
  | call d hd _ _ k ih => intro Q E p s n h; obtain ⟨y, s', hr, h⟩ := h; exact ⟨y, s', hr, ih y Q E p s' (n.trans (runs_onw hr)) h⟩
  | genState g k ih => intro Q E p s n h; obtain ⟨st, hs, h⟩ := h; exact ⟨st, hs, ih _ Q E p s n h⟩
  | newGen d k ih => intro Q E p s n h; exact ih _ Q E p { s with gens := s.gens.push (.fresh d) } n h
  | resume g w _ k ih => intro Q E p s n h; obtain ⟨res, s', hw, h⟩ := h; exact ⟨res, s', hw, ih res Q E p s' (n.trans (wakes_onw hw)) h⟩
theorem wpAny_onw {α : Type} {M : Model} {A : Around} {s : Shared} {x : Sem α} {Q : α → Shared → Prop} {E : Value → Shared → Prop} (h : wpAny M A x Q E s) :
    wpAny M A x (fun a t => Onw s.heap t.heap ∧ Q a t) (fun e t => Onw s.heap t.heap ∧ E e t) s := fun Γ p hΓ => wp_onw x _ _ p s .refl (h Γ p hΓ)
/-- the first n objects -/
def cutH (h : Heap) (n : Nat) : Heap := { h with objs := h.objs.extract 0 n }
theorem cutH_lt {h : Heap} {n b : Nat} (hb : b < n) : (cutH h n).get? b = h.get? b := by
  have q : (cutH h n).objs[b]? = h.objs[b]? := by
    show (h.objs.extract 0 n)[b]? = _
    rw [Array.getElem?_extract]
    split
    · rw [Nat.zero_add]
    · rename_i hn
      rw [Array.getElem?_eq_none]
      omega
  unfold Heap.get?
  rw [q]
theorem cutH_ge {h : Heap} {n b : Nat} (hb : n ≤ b) : (cutH h n).get? b = none := by
  have q : (cutH h n).objs[b]? = none := by
    show (h.objs.extract 0 n)[b]? = _
    rw [Array.getElem?_extract, if_neg (by omega)]
  unfold Heap.get?
  rw [q]
theorem cutH_size {h : Heap} {n : Nat} (hn : n ≤ h.objs.size) : (cutH h n).objs.size = n := by
  show (h.objs.extract 0 n).size = n
  rw [Array.size_extract]; omega
theorem cutH_some {h : Heap} {n b : Nat} {o : Obj} (e : (cutH h n).get? b = some o) : b < n ∧ h.get? b = some o := by
  by_cases hb : b < n
  · rw [cutH_lt hb] at e; exact ⟨hb, e⟩
  · rw [cutH_ge (Nat.le_of_not_lt hb)] at e; cases e
theorem fun_frames {h h' base : Heap} : ∀ {l : List Env}, h.FunFrames base l → (∀ b ∈ frs l, ∀ o, h.get? b = some o → ∃ o', h'.get? b = some o' ∧ o'.data = o.data) → h'.FunFrames base l
  | [], _, _ => trivial
  | env :: l, ⟨hk, ⟨L, o, hf, hn, ho, hd⟩, hr⟩, k => by
    have hL : L ∈ frs (env :: l) := by unfold frs; rw [List.filterMap_cons, hf]; exact List.mem_cons_self
    obtain ⟨o', e, ed⟩ := k L hL o ho
    refine ⟨hk, ⟨L, o', hf, hn, e, by rw [ed]; exact hd⟩, fun_frames hr fun b hb => k b ?_⟩
    unfold frs at hb ⊢
    rw [List.filterMap_cons, hf]
    exact List.mem_cons_of_mem _ hb
end Own

namespace Own
open PySem PySem.Spec PyProof.Rows L2 SX GenW
/-! ### generators whose consumer may change all that is not theirs -/
/-- the object that stands behind a name of a frame -/
def refAt (L : Addr) (h : Heap) (x : Str) : Option Addr := match h.nsMap L x with
  | some (.ref a) => some a
  | _ => none
/-- what belongs to a generator: its object, its frame, what stands behind the names nm -/
def ownF (a L : Addr) (nm : List Str) (h : Heap) : List Addr := a :: L :: nm.filterMap (refAt L h)
theorem ownF_same {a L : Addr} {nm : List Str} {h h' : Heap} (e : h'.get? L = h.get? L) : ownF a L nm h' = ownF a L nm h := by
  have q : h'.nsMap L = h.nsMap L := by
    funext x
    unfold Heap.nsMap
    rw [e]
  have q2 : refAt L h' = refAt L h := by
    funext x
    unfold refAt
    rw [q]
  unfold ownF
  rw [q2]
/-- where a generator lives: the heap ahead of its call, its object, its frame, the names of its lists -/
structure Gp where
  P : Program
  w : World
  base : Heap
  outer : List Env
  Hg : Hp
  sz : Nat
  os : OsState
  a : Addr
  go : Obj
  nm : List Str
abbrev Gp.own (g : Gp) (h : Heap) : List Addr := ownF g.a g.sz g.nm h
def NoC (o : Obj) : Prop := ∀ v, o.data ≠ .cell v
/-- the generator has run from h to h' -/
structure KeptG (g : Gp) (h h' : Heap) : Prop where
  keep : ∀ b o, h.get? b = some o → g.Hg b = none → b ∉ g.own h → (b < g.sz ∨ NoC o) → b ∉ frs g.outer → h'.get? b = some o
  slot : ∀ b o, h.get? b = some o → b ∈ frs g.outer → ∃ sl, h'.get? b = some { o with slots := sl }
  tups : ∀ b xs, g.Hg b = some (.tup xs) → ObjOk g.P g.w g.Hg h' b (.tup xs)
/-- the consumer has run from s to s' -/
structure Nap2 (g : Gp) (s s' : Shared) : Prop where
  os : s'.os = s.os
  bare : AllBare s'.gens
  sz : g.sz ≤ s'.heap.objs.size
  own : ∀ b ∈ g.own s.heap, g.sz ≤ b ∧ s'.heap.get? b = s.heap.get? b
  base : ∀ b o, g.base.get? b = some o → s'.heap.get? b = some o
  tups : ∀ b xs, g.Hg b = some (.tup xs) → ObjOk g.P g.w g.Hg s'.heap b (.tup xs)
  funs : s'.heap.FunFrames g.base g.outer
/-- an item is out -/
def Item2 (g : Gp) (out : List V) : Protocol := fun n s₀ v s1 kap =>
  s1.os = g.os ∧ AllBare s1.gens ∧ s1.heap.NoLimit ∧ s1.heap.get? g.a = some g.go ∧ KeptG g s₀.heap s1.heap ∧ (∃ (k : Nat) (x : V), n + 1 + k = sizeLine ∧ out[k]? = some x ∧ RelV x v) ∧
  (∀ b ∈ g.own s1.heap, (∃ o, s1.heap.get? b = some o ∧ NoC o) ∧ (b ∈ g.own s₀.heap ∨ s₀.heap.get? b = none ∨ (g.sz ≤ b ∧ ∃ o, s₀.heap.get? b = some o ∧ ¬ NoC o))) ∧ ∀ s', Nap2 g s1 s' → kap (.send .none) s' ∧ kap (.send .ellipsis) s'
def Done2 (g : Gp) (out : List V) (n : Nat) (s₀ s1 : Shared) : Prop := n + out.length = sizeLine ∧ s1.os = g.os ∧ AllBare s1.gens ∧ KeptG g s₀.heap s1.heap
def Over2 (g : Gp) (out : List V) : GenEnd := fun n s₀ r s1 => ((r = .ok (.ret .none) ∨ r = .ok .next) ∧ Done2 g out n s₀ s1) ∨ ∃ e, r = .error e ∧ (fun (_ : Value) (_ : Shared) => False) e s1
/-- the context with another beginning -/
abbrev rr (X : Cx) (s0 : Shared) : Cx := { X with s_0 := s0 }
abbrev root (X : Cx) (s : Shared) : Shared := { X.s_0 with heap := cutH s.heap X.s_0.heap.objs.size }
/-- the place of the generator whose body runs in X -/
def gpOf (X : Cx) (a : Addr) (go : Obj) (nm : List Str) : Gp := ⟨X.prog, X.w, X.base, X.outer, X.H_0, X.s_0.heap.objs.size, X.s_0.os, a, go, nm⟩
structure GOk (X : Cx) (a : Addr) (go : Obj) (nm : List Str) : Prop where
  cells : X.env.cells = []
  ex : X.ex = []
  loc : X.env.locals = X.s_0.heap.objs.size
  pn : X.pn = [(a, go)]
  lo : X.s_0.heap.objs.size ≤ a
  go : NoC go
  tups : ∀ b o, X.H_0 b = some o → b < X.s_0.heap.objs.size ∧ ∃ xs, o = .tup xs
/-- the generator runs; it was woken at s₀ -/
def Run2 (X : Cx) (a : Addr) (go : Obj) (nm : List Str) (σ : L2.St) (H : Hp) (s₀ s : Shared) : Prop :=
  ∃ cp : List (Addr × Obj), (∀ b o, s₀.heap.get? b = some o → X.s_0.heap.objs.size ≤ b → b ∉ (gpOf X a go nm).own s₀.heap → NoC o → (b, o) ∈ cp) ∧ Inv (rr X (root X s₀)) cp σ H s
section
variable {X : Cx} {a : Addr} {go : Obj} {nm : List Str} {σ : L2.St} {H : Hp} {s₀ s s' : Shared}
theorem Run2.fs (r : Run2 X a go nm σ H s₀ s) : ∀ b ∈ X.fs, b < X.s_0.heap.objs.size ∧ ∃ o, s₀.heap.get? b = some o := fun b hb => by
  obtain ⟨cp, _, I⟩ := r
  obtain ⟨_, o, ho, _⟩ := I.ok.funs.mem hb
  obtain ⟨h1, h2⟩ := cutH_some ho
  exact ⟨h1, o, h2⟩
theorem Run2.kept (G : GOk X a go nm) (r : Run2 X a go nm σ H s₀ s) (sm : Same X.H_0 H) : KeptG (gpOf X a go nm) s₀.heap s.heap := by
  have hfs := r.fs
  obtain ⟨cp, cov, I⟩ := r
  have nex : ∀ b, b ∉ X.ex := fun b z => by rw [G.ex] at z; cases z
  refine ⟨fun b o e n no hc nf => ?_, fun b o e hb => ?_, fun b xs e => ?_⟩
  · by_cases hlt : b < X.s_0.heap.objs.size
    · exact I.base.keep b o ((cutH_lt hlt).trans e) n nf (nex b)
    · rcases hc with hc | hc
      · exact absurd hc hlt
      · exact (I.pin (b, o) (List.mem_append_right _ (cov b o e (Nat.le_of_not_lt hlt) no hc))).1
  · exact I.base.slot b o ((cutH_lt (hfs b hb).1).trans e) (I.ok.frf b hb) hb (nex b)
  · have q := I.hok b _ (sm b _ e)
    exact q
/-- the generator goes on where the consumer has left all that is its own -/
theorem wokenI {s0 : Shared} {cp : List (Addr × Obj)} (G : GOk X a go nm) (I : Inv (rr X s0) cp σ H s) (h1 : s0.heap.objs.size ≤ X.s_0.heap.objs.size) (h2 : s0.os = X.s_0.os) (z : Nap2 (gpOf X a go nm) s s')
    (hw : ∀ b ∈ nm.filterMap (refAt X.env.locals s.heap), ∃ xs, H b = some (.lst xs) ∧ X.H_0 b = none) :
    Run2 X a go nm σ (fun b => if b ∈ nm.filterMap (refAt X.env.locals s.heap) then H b else X.H_0 b) s' s' := by
  have hfs : ∀ b ∈ X.fs, b < X.s_0.heap.objs.size := fun b hb => by
    obtain ⟨_, o, ho, _⟩ := I.ok.funs.mem hb
    exact Nat.lt_of_lt_of_le (Heap.lt_size ho) h1
  obtain ⟨hp, g, d, t, o⟩ := s'
  have ho : o = s.os := z.os
  subst ho
  have eL : X.s_0.heap.objs.size = X.env.locals := G.loc.symm
  have mws : ∀ b ∈ nm.filterMap (refAt X.env.locals s.heap), b ∈ (gpOf X a go nm).own s.heap := fun b hb => by
    show b ∈ a :: X.s_0.heap.objs.size :: nm.filterMap (refAt X.s_0.heap.objs.size s.heap)
    rw [eL]
    exact List.mem_cons_of_mem _ (List.mem_cons_of_mem _ hb)
  have own : ∀ b ∈ (gpOf X a go nm).own s.heap, X.s_0.heap.objs.size ≤ b ∧ hp.get? b = s.heap.get? b := z.own
  have oL := own X.s_0.heap.objs.size (List.mem_cons_of_mem _ (List.mem_cons_self ..))
  have oA := own a (List.mem_cons_self ..)
  have pA := I.pin (a, go) (List.mem_append_left _ (by show (a, go) ∈ X.pn; rw [G.pn]; exact List.mem_singleton.mpr rfl))
  have h0lt : ∀ b o, X.H_0 b = some o → b < X.s_0.heap.objs.size := fun b o e => (G.tups b o e).1
  have h0none : ∀ b, X.s_0.heap.objs.size ≤ b → X.H_0 b = none := fun b hb => by
    cases q : X.H_0 b with
    | none => rfl
    | some u => exact absurd (h0lt b u q) (Nat.not_lt.mpr hb)
  generalize hws : nm.filterMap (refAt X.env.locals s.heap) = ws at *
  have wlst : ∀ b ∈ ws, ∃ xs, H b = some (.lst xs) ∧ X.H_0 b = none := hw
  have fL : H X.env.locals = none := I.free
  have nL : X.env.locals ∉ ws := fun m => by
    obtain ⟨xs, e, _⟩ := wlst _ m
    rw [fL] at e; cases e
  have nA : a ∉ ws := fun m => by
    obtain ⟨xs, e, _⟩ := wlst _ m
    have e2 : H a = none := pA.2.1
    rw [e2] at e; cases e
  have cutNone : ∀ b, X.s_0.heap.objs.size ≤ b → b ∉ ws → (if b ∈ ws then H b else X.H_0 b) = none := fun b hb n => by
    rw [if_neg n]; exact h0none b hb
  have cut0 : ∀ b, b < X.s_0.heap.objs.size → (if b ∈ ws then H b else X.H_0 b) = X.H_0 b := fun b hb => if_neg fun m => absurd hb (Nat.not_lt.mpr (own b (mws b m)).1)
  have zf : hp.FunFrames X.base X.outer := z.funs
  have zb : ∀ b o, X.base.get? b = some o → hp.get? b = some o := z.base
  have zt : ∀ b xs, X.H_0 b = some (.tup xs) → ObjOk X.prog X.w X.H_0 hp b (.tup xs) := z.tups
  have zs : X.s_0.heap.objs.size ≤ hp.objs.size := z.sz
  have hsz : (cutH hp X.s_0.heap.objs.size).objs.size = X.s_0.heap.objs.size := cutH_size zs
  have bsz : X.base.objs.size ≤ X.s_0.heap.objs.size := by
    exact Nat.le_trans I.ok.bsz h1
  refine ⟨(List.range hp.objs.size).filterMap fun b => if X.s_0.heap.objs.size ≤ b ∧ b ∉ (gpOf X a go nm).own hp then (hp.get? b).bind fun o => match o.data with
      | .cell _ => none
      | _ => some (b, o) else none, fun b o e h1 h2 h3 => ?_, ?_⟩
  · refine List.mem_filterMap.mpr ⟨b, List.mem_range.mpr (Heap.lt_size e), ?_⟩
    have e' : hp.get? b = some o := e
    rw [if_pos ⟨h1, h2⟩, e']
    show (match o.data with | .cell _ => none | _ => some (b, o)) = _
    split
    · rename_i v hd
      exact (h3 v hd).elim
    · rfl
  have hcp : ∀ p ∈ (List.range hp.objs.size).filterMap (fun b => if X.s_0.heap.objs.size ≤ b ∧ b ∉ (gpOf X a go nm).own hp then (hp.get? b).bind fun o => match o.data with
      | .cell _ => none
      | _ => some (b, o) else none), hp.get? p.1 = some p.2 ∧ X.s_0.heap.objs.size ≤ p.1 ∧ p.1 ∉ (gpOf X a go nm).own hp ∧ NoC p.2 := fun p hp' => by
    obtain ⟨b, _, e⟩ := List.mem_filterMap.mp hp'
    split at e
    · rename_i hc
      cases q : hp.get? b with
      | none => rw [q] at e; cases e
      | some ob =>
        rw [q] at e
        have e : (match ob.data with | .cell _ => none | _ => some (b, ob)) = some p := e
        split at e
        · cases e
        · rename_i hn
          cases e
          exact ⟨q, hc.1, hc.2, fun v hv => hn v hv⟩
    · cases e
  have ownEq : (gpOf X a go nm).own hp = (gpOf X a go nm).own s.heap := ownF_same oL.2
  have locK : hp.get? X.env.locals = s.heap.get? X.env.locals := by rw [← eL]; exact oL.2
  refine ⟨⟨I.ok.mod, I.ok.kind, I.ok.glob, I.ok.blt, ?_, I.ok.inj, I.ok.has, fun x c _ e => ?_, I.ok.hd, I.ok.frames, I.ok.stk, I.ok.exf, fun b o e => ⟨?_, (I.ok.bs b o e).2⟩, ?_, I.ok.noex, I.ok.exfs, ?_, I.ok.frf⟩,
    (I.os.trans h2 : s.os = X.s_0.os), z.bare, ⟨?_, ?_, ?_, ?_, ?_, ?_, ?_⟩, ?_, fun x c e => ?_, ?_, fun x c e => ?_, fun p hp' => ?_, fun b u e => ?_, I.len⟩
  · show (cutH hp _).objs.size ≤ X.env.locals
    rw [hsz, ← eL]; exact Nat.le_refl _
  · have e : X.env.cells.lookup x = some c := e
    rw [G.cells] at e; cases e
  · show (cutH hp _).get? b = some o
    have e : X.base.get? b = some o := e
    rw [cutH_lt (Nat.lt_of_lt_of_le (Heap.lt_size e) bsz)]
    exact zb b o e
  · show X.base.objs.size ≤ (cutH hp _).objs.size
    rw [hsz]; exact bsz
  · refine fun_frames zf fun b hb o e => ⟨o, ?_, rfl⟩
    show (cutH hp _).get? b = some o
    rw [cutH_lt (hfs b hb)]; exact e
  · intro b o e _ _ _
    exact (cutH_some e).2
  · intro b o e _ _ _
    exact ⟨o.slots, (cutH_some e).2⟩
  · intro b o e n _
    rw [cut0 b (cutH_some e).1]; exact n
  · intro b o e _
    exact ⟨o, (cutH_some e).2⟩
  · intro b xs e
    have e : X.H_0 b = some (.tup xs) := e
    rw [cut0 b (h0lt b _ e)]; exact e
  · intro b o u e
    have e : X.H_0 b = some (.frz o u) := e
    rw [cut0 b (h0lt b _ e)]; exact e
  · intro b ps e
    have e : X.H_0 b = some (.tbl ps) := e
    obtain ⟨_, xs, q⟩ := G.tups b _ e
    cases q
  · obtain ⟨m, hn, hl⟩ := I.loc
    refine ⟨m, hn.at' fun o e => ?_, fun i x v e1 e2 e3 => ?_⟩
    · show hp.get? X.env.locals = some o
      rw [locK]; exact e
    · obtain ⟨u, r, l⟩ := hl i x v e1 e2 e3
      refine ⟨u, r, ?_⟩
      rcases l with l | ⟨k, c, e, _⟩
      · exact .inl l
      · have e : X.env.cells.lookup x = some c := e
        rw [G.cells] at e; cases e
  · have e : X.env.cells.lookup x = some c := e
    rw [G.cells] at e; cases e
  · exact cutNone _ (by rw [eL]; exact Nat.le_refl _) nL
  · have e : X.env.cells.lookup x = some c := e
    rw [G.cells] at e; cases e
  · rcases List.mem_append.mp hp' with hp' | hp'
    · have hp' : p ∈ X.pn := hp'
      rw [G.pn] at hp'
      rw [List.mem_singleton.mp hp']
      exact ⟨oA.2.trans pA.1, cutNone a G.lo nA, pA.2.2.1, pA.2.2.2.1, pA.2.2.2.2⟩
    · obtain ⟨e, h1, h2, h3⟩ := hcp p hp'
      rw [ownEq] at h2
      refine ⟨e, cutNone _ h1 fun m => h2 (mws _ m), fun q => h2 ?_, fun hb => absurd (hfs _ hb) (Nat.not_lt.mpr h1), h3⟩
      have q : p.1 = X.env.locals := q
      rw [q, ← eL]
      exact List.mem_cons_of_mem _ (List.mem_cons_self ..)
  · show ObjOk X.prog X.w (fun b => if b ∈ ws then H b else X.H_0 b) hp b u
    by_cases hb : b ∈ ws
    · rw [if_pos hb] at e
      obtain ⟨xs, e2, _⟩ := wlst b hb
      rw [e2] at e
      cases e
      obtain ⟨l, its, n, v, q⟩ := I.hok b _ e2
      exact ⟨l, its, n, v, by rw [(own b (mws b hb)).2]; exact q⟩
    · rw [if_neg hb] at e
      obtain ⟨_, xs, q⟩ := G.tups b u e
      subst q
      exact zt b xs e
theorem cut_le {h : Heap} {n : Nat} : (cutH h n).objs.size ≤ n := by
  show (h.objs.extract 0 n).size ≤ n
  rw [Array.size_extract]; omega
theorem Run2.woken (G : GOk X a go nm) (r : Run2 X a go nm σ H s₀ s) (z : Nap2 (gpOf X a go nm) s s')
    (hw : ∀ b ∈ nm.filterMap (refAt X.env.locals s.heap), ∃ xs, H b = some (.lst xs) ∧ X.H_0 b = none) :
    Run2 X a go nm σ (fun b => if b ∈ nm.filterMap (refAt X.env.locals s.heap) then H b else X.H_0 b) s' s' :=
  let ⟨_, _, I⟩ := r
  wokenI G I cut_le rfl z hw
end
end Own

namespace Own
open PySem PySem.Spec PyProof.Rows L2 SX GenW
/-! ### the bodies of such generators -/
def Got2 (X : Cx) (a : Addr) (go : Obj) (nm : List Str) (D : EndsK) (k : Nat) (s₀ : Shared) : Flow → Shared → Prop
  | .next, s => ∃ σ H, Run2 X a go nm σ H s₀ s ∧ D.nx k σ H
  | .brk, s => ∃ σ H, Run2 X a go nm σ H s₀ s ∧ D.bk k σ H
  | .cont, s => ∃ σ H, Run2 X a go nm σ H s₀ s ∧ D.ct k σ H
  | .ret u, s => ∃ v σ H, Run2 X a go nm σ H s₀ s ∧ RelV v u ∧ D.rt k v H
structure Spot2 (X : Cx) (A : Around) (c : Code) (fs : List Frame) (gd : Bool → Bool) : Prop where
  over : A.over c fs = X.A
  split : splitAtGen fs = none
  guard : fs.any Frame.guarded = false
  gd : gd false = false
structure Then2 (X : Cx) (a : Addr) (go : Obj) (nm : List Str) (out : List V) (A : Around) (R : GenEnd) (c : Code) (fs : List Frame) (K : Flow → Sem PySem.Fin) (J : Value → Sem PySem.Fin) (D : EndsK) : Prop where
  ok : ∀ (n k : Nat) (s₀ s : Shared) (f : Flow), n + k = sizeLine → Got2 X a go nm D k s₀ f s → Seg (model X.prog X.w) A R (Item2 (gpOf X a go nm) out) n s₀ c (K f) fs s
  exc : ∀ (n : Nat) (s₀ : Shared) (e : Value) (s : Shared), X.xe e s → Seg (model X.prog X.w) A R (Item2 (gpOf X a go nm) out) n s₀ c (J e) fs s
def Does2 (X : Cx) (a : Addr) (go : Obj) (nm : List Str) (out : List V) (m : Sem Flow) (t : TK) : Prop :=
  ∀ (A : Around) (R : GenEnd) (n k : Nat) (s₀ : Shared) (c : Code) (fs : List Frame) (K : Flow → Sem PySem.Fin) (J : Value → Sem PySem.Fin) (gd : Bool → Bool) (lv : List Value → List Value) (s : Shared) (σ : L2.St) (H : Hp) (D : EndsK),
    Spot2 X A c fs gd → n + k = sizeLine → Then2 X a go nm out A R c fs K J D → Run2 X a go nm σ H s₀ s → t D k σ H → Seg (model X.prog X.w) A R (Item2 (gpOf X a go nm) out) n s₀ c (m.wrap K J gd lv) fs s
section
variable {X : Cx} {a : Addr} {go : Obj} {nm : List Str} {out : List V} {st : Stmt} {rest : List Stmt}
/-- what hands out nothing -/
theorem d2_plain {t : TS} (h : ∀ s0, PS (rr X s0) st t) : Does2 X a go nm out (exec st X.env) (tSame t) := by
  intro A R n k s₀ c fs K J gd lv s σ H D g hn f ⟨cp, cov, I⟩ ht
  refine seg_wrap ?_
  rw [g.over]
  refine wpAny_mono ((h (root X s₀)).run cp s σ H (D.at k) I ht) (fun fl s' hs => f.ok n k s₀ s' fl hn ?_) fun x s' hx => f.exc n s₀ x s' hx
  cases fl with
  | next => obtain ⟨σ', H', I', q⟩ := hs; exact ⟨σ', H', ⟨cp, cov, I'⟩, q⟩
  | brk => obtain ⟨σ', H', I', q⟩ := hs; exact ⟨σ', H', ⟨cp, cov, I'⟩, q⟩
  | cont => obtain ⟨σ', H', I', q⟩ := hs; exact ⟨σ', H', ⟨cp, cov, I'⟩, q⟩
  | ret u => obtain ⟨v, σ', H', I', r, q⟩ := hs; exact ⟨v, σ', H', ⟨cp, cov, I'⟩, r, q⟩
theorem d2_nil : Does2 X a go nm out (execs [] X.env) tStop := by
  intro A R n k s₀ c fs K J gd lv s σ H D g hn f r ht
  exact seg_execs_nil (f.ok n k s₀ s .next hn ⟨σ, H, r, ht⟩)
theorem d2_cons {t u : TK} (x : Does2 X a go nm out (exec st X.env) t) (y : Does2 X a go nm out (execs rest X.env) u) : Does2 X a go nm out (execs (st :: rest) X.env) (tOn t u) := by
  intro A R n k s₀ c fs K J gd lv s σ H D g hn f r ht
  refine seg_execs_cons (x A R n k s₀ c fs _ J gd lv s σ H { D with nx := u D } g hn ⟨fun n' k' s₀' s' fl hn' hs => ?_, f.exc⟩ r ht)
  cases fl with
  | next =>
    obtain ⟨σ', H', r', q⟩ := hs
    exact y A R n' k' s₀' c fs K J gd lv s' σ' H' D g hn' f r' q
  | brk => exact f.ok n' k' s₀' s' .brk hn' hs
  | cont => exact f.ok n' k' s₀' s' .cont hn' hs
  | ret u => exact f.ok n' k' s₀' s' (.ret u) hn' hs
theorem d2_last {t : TK} (x : Does2 X a go nm out (exec st X.env) t) : Does2 X a go nm out (execs [st] X.env) t := d2_cons x d2_nil
/-- the heap when the generator wakes again: its lists at ws, and what it was given -/
def wakeH (H0 H : Hp) (ws : List Addr) : Hp := fun b => if b ∈ ws then H b else H0 b
/-- yield e: the names nm stand for the lists at ws, which are its own -/
def tYield2 (X : Cx) (nm : List Str) (ws : List Addr) (out : List V) (te : TE) : TK := fun D k (σ : List (Option V)) H => k < sizeLine ∧ te σ H fun x H1 => out[k]? = some x ∧ Same X.H_0 H1 ∧
  Paired (fun (x : Str) (w : Addr) => ∃ i : Nat, X.N[i]? = some x ∧ σ[i]? = some (some (V.ref w)) ∧ X.env.scope.names.lookup x = some .local ∧ (∃ xs, H1 w = some (.lst xs)) ∧ X.H_0 w = none) nm ws ∧ D.nx (k + 1) σ (wakeH X.H_0 H1 ws)
theorem refs_of {nm : List Str} {ws : List Addr} {L : Addr} {h : Heap} (p : Paired (fun x w => refAt L h x = some w) nm ws) : nm.filterMap (refAt L h) = ws := by
  induction p with
  | nil => rfl
  | cons e _ ih => rw [List.filterMap_cons, e]; show _ :: _ = _; rw [ih]
theorem d2_yield {e : Expr} {yp pos : Pos} {te : TE} {ws : L2.St → Hp → List Addr} (G : GOk X a go nm) (he : ∀ s0, PE (rr X s0) e te) (hco : X.env.scope.isCoroutine = false := by rfl) (hi : interactive X.env = false := by rfl) :
    Does2 X a go nm out (exec (.Expr (.Yield (some e) yp) pos) X.env) (fun D k σ H => tYield2 X nm (ws σ H) out te D k σ H) := by
  intro A R n k s₀ c fs K J gd lv s σ H D g hn f r ht
  obtain ⟨hk, ht⟩ := ht
  obtain ⟨m, rfl⟩ : ∃ m, n = m + 1 := ⟨n - 1, by omega⟩
  obtain ⟨cp, cov, I⟩ := r
  refine seg_Expr_Yield g.split g.gd g.guard ?_ hco hi
  rw [g.over]
  refine wpAny_mono ((he (root X s₀)).run cp s σ H _ I ht) (fun v s' hv => ?_) fun x s' hx => f.exc _ s₀ x s' hx
  obtain ⟨x, H1, I1, rv, hx, sm, hp, q⟩ := hv
  have r1 : Run2 X a go nm σ H1 s₀ s' := ⟨cp, cov, I1⟩
  have kk := r1.kept G sm
  have eL : X.s_0.heap.objs.size = X.env.locals := G.loc.symm
  have pA := I1.pin (a, go) (List.mem_append_left _ (by show (a, go) ∈ X.pn; rw [G.pn]; exact List.mem_singleton.mpr rfl))
  have hr : nm.filterMap (refAt X.env.locals s'.heap) = ws σ H := by
    refine refs_of (Paired.mapP hp fun y w ⟨i, e1, e2, e3, _⟩ => ?_)
    obtain ⟨mm, hns, hl⟩ := I1.loc
    obtain ⟨u, ru, l⟩ := hl i y _ e1 e2 (.inl e3)
    have eu : u = .ref w := ru
    subst eu
    unfold refAt
    rcases l with ⟨_, l⟩ | ⟨_, c', ec, _⟩
    · have hns : s'.heap.Ns X.env.locals mm := hns
      rw [← hns.eq_nsMap, l]
    · have ec : X.env.cells.lookup y = some c' := ec
      rw [G.cells] at ec; cases ec
  have hall : ∀ b ∈ ws σ H, (∃ xs, H1 b = some (.lst xs)) ∧ X.H_0 b = none := fun b hb => by
    have aux : ∀ {l : List Str} {l' : List Addr}, Paired (fun (x : Str) (w : Addr) => ∃ i : Nat, X.N[i]? = some x ∧ σ[i]? = some (some (V.ref w)) ∧ X.env.scope.names.lookup x = some .local ∧ (∃ xs, H1 w = some (.lst xs)) ∧ X.H_0 w = none) l l' → b ∈ l' → (∃ xs, H1 b = some (.lst xs)) ∧ X.H_0 b = none := by
      intro l l' p hb
      induction p with
      | nil => cases hb
      | cons e _ ih =>
        rcases List.mem_cons.mp hb with rfl | hb
        · obtain ⟨_, _, _, _, e1, e2⟩ := e; exact ⟨e1, e2⟩
        · exact ih hb
    exact aux hp hb
  have hown : (gpOf X a go nm).own s'.heap = a :: X.s_0.heap.objs.size :: ws σ H := by
    show a :: X.s_0.heap.objs.size :: nm.filterMap (refAt X.s_0.heap.objs.size s'.heap) = _
    rw [eL, hr]
  intro kap hkap
  refine ⟨I1.os, I1.bare, I1.nolimit, pA.1, kk, ⟨k, x, by show m + 1 - 1 + 1 + k = _; omega, hx, rv⟩, fun b hb => ?_, fun s'' z => have st : Seg (model X.prog X.w) A R (Item2 (gpOf X a go nm) out) m s'' c (K .next) fs s'' := f.ok m (k + 1) s'' s'' .next (by omega) ⟨σ, _, ?_, q⟩; ⟨hkap .none s'' st, hkap .ellipsis s'' st⟩⟩
  · rw [hown] at hb
    rcases List.mem_cons.mp hb with rfl | hb
    · exact ⟨⟨go, pA.1, G.go⟩, .inl (List.mem_cons_self ..)⟩
    · rcases List.mem_cons.mp hb with rfl | hb
      · obtain ⟨mm, ⟨ob, es, ep, ho, hd, _⟩, _⟩ := I1.loc
        exact ⟨⟨ob, by rw [eL]; exact ho, fun v hv => by rw [hd] at hv; cases hv⟩, .inl (List.mem_cons_of_mem _ (List.mem_cons_self ..))⟩
      · obtain ⟨⟨xs, e1⟩, e2⟩ := hall b hb
        obtain ⟨_, its, cap, _, eo⟩ := I1.hok b _ e1
        refine ⟨⟨_, eo, fun v hv => nomatch hv⟩, ?_⟩
        -- was it there when the generator was woken?
        by_cases ho : b ∈ (gpOf X a go nm).own s₀.heap
        · exact .inl ho
        · refine .inr ?_
          cases q0 : s₀.heap.get? b with
          | none => exact .inl rfl
          | some ob =>
            by_cases hlt : b < X.s_0.heap.objs.size
            · exfalso
              have := I1.base.free b ob ((cutH_lt hlt).trans q0) e2 (by show b ∉ X.ex; rw [G.ex]; exact fun z => nomatch z)
              rw [e1] at this; cases this
            · by_cases hc : NoC ob
              · exfalso
                have := (I1.pin (b, ob) (List.mem_append_right _ (cov b ob q0 (Nat.le_of_not_lt hlt) ho hc))).2.1
                rw [e1] at this; cases this
              · exact .inr ⟨Nat.le_of_not_lt hlt, ob, rfl, hc⟩
  · have z2 := Run2.woken G r1 z (by rw [hr]; exact fun b hb => let ⟨⟨xs, e⟩, e2⟩ := hall b hb; ⟨xs, e, e2⟩)
    rw [hr] at z2
    exact z2

/-! ### while -/
variable {A : Around} {R : GenEnd} {c : Code} {fs : List Frame} {K : Flow → Sem PySem.Fin} {J : Value → Sem PySem.Fin} {gd : Bool → Bool} {lv : List Value → List Value} {D : EndsK} {n k : Nat} {s₀ s : Shared}
theorem Spot2.loop {c' : Code} {p : Pos} (g : Spot2 X A c fs gd) (hw : c'.weight = 0) (hu : c'.cUnits = 0) : Spot2 X A c' (loopF X.env K J gd lv c p :: fs) id :=
  ⟨(over_loop hw hu).trans g.over, by show Option.map _ (splitAtGen fs) = none; rw [g.split]; rfl, by show (gd false || _) = false; rw [g.gd, Bool.false_or]; exact g.guard, rfl⟩
theorem Then2.leave {c' : Code} {p : Pos} {e : Value} (hp : PassesOwn (model X.prog X.w) X.A X.env X.xe) (g : Spot2 X A c fs gd) (f : Then2 X a go nm out A R c fs K J D) (hw : c'.weight = 0) (hu : c'.cUnits = 0) (h : X.xe e s) :
    Seg (model X.prog X.w) A R (Item2 (gpOf X a go nm) out) n s₀ c' (noted X.env e) (loopF X.env K J gd lv c p :: fs) s := by
  have up : ∀ (n : Nat) (s₀ : Shared) (y : Value) (s' : Shared), cameBackBy (model X.prog X.w) X.A X.env X.xe y s' → Seg (model X.prog X.w) A R (Item2 (gpOf X a go nm) out) n s₀ c (under X.env K J gd lv (.error y)) fs s' := by
    intro n s₀ y s' hy
    have q : under X.env K J gd lv (.error y) = (back X.env y).wrap (fun _ => J y) J gd lv := by
      show ((back X.env y).bind fun _ => (Sem.raise y : Sem Flow)).wrap K J gd lv = _
      rw [Sem.bind_eq_wrap, Sem.wrap_wrap]
      rfl
    rw [q]
    refine seg_wrap ?_
    rw [g.over]
    exact wpAny_mono hy (fun _ s'' hx => f.exc n s₀ y s'' hx) fun x s'' hx => f.exc n s₀ x s'' hx
  refine seg_wrap ?_
  rw [(g.loop (K := K) (J := J) (lv := lv) (p := p) hw hu).over]
  refine wpAny_bind (wpAny_mono (hp e s h) (fun _ s' hb => wpAny_theTreesLotGoes (seg_leaf (.error e) (up n s₀ e s' hb))) fun y s' hb => seg_leaf (.error y) (up n s₀ y s' hb))
theorem d2_while {test : Expr} {body : List Stmt} {pos : Pos} {tc : TT} {tb : TK} (hp : PassesOwn (model X.prog X.w) X.A X.env X.xe) (hc : ∀ s0, PT (rr X s0) test tc) (hb : Does2 X a go nm out (execs body X.env) tb) : Does2 X a go nm out (exec (.While test body [] pos) X.env) (tWhileK tc tb) := by
  intro A R n k s₀ c fs K J gd lv s σ H D g hn f r ht
  obtain ⟨W, ⟨m0, w0⟩, turn⟩ := ht
  refine seg_While fun p => ?_
  have gl : Spot2 X A (.whileLoop test body [] X.env) (loopF X.env K J gd lv c p :: fs) id := g.loop rfl rfl
  have go_ : ∀ (m n k : Nat) (s₀ s : Shared) (σ : L2.St) (H : Hp), n + k = sizeLine → W m k σ H → Run2 X a go nm σ H s₀ s →
      Seg (model X.prog X.w) A R (Item2 (gpOf X a go nm) out) n s₀ (.whileLoop test body [] X.env) ((model X.prog X.w).den (.whileLoop test body [] X.env)) (loopF X.env K J gd lv c p :: fs) s := by
    intro m
    induction m using Nat.strongRecOn with
    | ind m ih =>
      intro n k s₀ s σ H hn w r
      refine seg_whileLoop ?_
      rw [gl.over]
      obtain ⟨cp, cov, I⟩ := r
      refine wpAny_mono ((hc (root X s₀)).run cp s σ H _ I (turn m k σ H w)) (fun b s' ⟨H2, I2, q2⟩ => ?_) fun x s' hx => f.leave hp g rfl rfl hx
      have r2 : Run2 X a go nm σ H2 s₀ s' := ⟨cp, cov, I2⟩
      cases b with
      | false => exact seg_execs_nil (seg_leaf (.ok .next) (f.ok n k s₀ s' .next hn ⟨σ, H2, r2, q2⟩))
      | true =>
        obtain ⟨N, hN, q2⟩ := q2
        refine hb A R n k s₀ _ _ _ _ id id s' σ H2 { D with nx := N, ct := N, bk := D.nx } gl hn ⟨fun n' k' s₀' s3 fl hn' hs => ?_, fun n' s₀' x s3 hx => f.leave hp g rfl rfl hx⟩ r2 q2
        have on : ∀ {σ3 : L2.St} {H3 : Hp}, Run2 X a go nm σ3 H3 s₀' s3 → N k' σ3 H3 → Seg (model X.prog X.w) A R (Item2 (gpOf X a go nm) out) n' s₀' (.whileLoop test body [] X.env) (.pure (.again (.whileLoop test body [] X.env))) (loopF X.env K J gd lv c p :: fs) s3 := fun r3 n3 => by
          obtain ⟨m', hm, w3⟩ := hN k' _ _ n3
          exact seg_again rfl (ih m' hm n' k' s₀' s3 _ _ hn' w3 r3)
        cases fl with
        | next => obtain ⟨σ3, H3, r3, n3⟩ := hs; exact on r3 n3
        | cont => obtain ⟨σ3, H3, r3, n3⟩ := hs; exact on r3 n3
        | brk => exact seg_leaf (.ok .next) (f.ok n' k' s₀' s3 .next hn' hs)
        | ret v => exact seg_leaf (.ok (.ret v)) (f.ok n' k' s₀' s3 (.ret v) hn' hs)
  exact go_ m0 n k s₀ s σ H hn w0 r
end
end Own

namespace Own
open PySem PySem.Spec PyProof.Rows L2 SX GenW
/-! ### a call of such a generator def -/
abbrev SpT := List V → Hp → List V → Prop
structure Fresh2 (P : Program) (w : World) (base : Heap) (k : Nat) (outer : List Env) (H : Hp) (s : Shared) (out : List V) (nm : List Str) (a : Addr) (g : Nat) (c : Code) (go : Obj) (s' : Shared) : Prop where
  lo : s.heap.objs.size ≤ a
  goat : s'.heap.get? a = some go
  noc : NoC go
  gen : ∀ h : Heap, h.get? a = some go → h.IsGen a g
  at_ : s'.gens[g]? = some (.fresh c)
  os : s'.os = s.os
  bare : AllBare s'.gens
  lim : s'.heap.NoLimit
  keep : ∀ b o, s.heap.get? b = some o → s'.heap.get? b = some o
  onw : s.heap.objs.size < s'.heap.objs.size
  own : (⟨P, w, base, outer, H, s.heap.objs.size, s.os, a, go, nm⟩ : Gp).own s'.heap = [a, s.heap.objs.size]
  frame : ∃ o, s'.heap.get? s.heap.objs.size = some o ∧ NoC o
  tups : ∀ b o, H b = some o → ∃ xs, o = .tup xs
  clean : CleanG s.gens → CleanG s'.gens
  wake : ∀ (A : Around) (s2 : Shared), Room k A → A.frames = some outer → Nap2 ⟨P, w, base, outer, H, s.heap.objs.size, s.os, a, go, nm⟩ s' s2 →
    Seg (model P w) A (Over2 ⟨P, w, base, outer, H, s.heap.objs.size, s.os, a, go, nm⟩ out) (Item2 ⟨P, w, base, outer, H, s.heap.objs.size, s.os, a, go, nm⟩ out) sizeLine s2 c ((model P w).den c) [] s2
structure GFn2 (P : Program) (w : World) (K : PySem.W.Frag) (mg : Str → Option Value) (base : Heap) (k : Nat) (f : Addr) (fd : FuncData) (ps nm : List Str) (sp : SpT) : Prop where
  len : ∀ vs H out, sp vs H out → vs.length = ps.length
  run : ∀ (A : Around) (outer : List Env) (s : Shared) (H : Hp) (args : Args) (us : List Value) (vs out : List V), Room k A → Env0 P w K mg base A outer s H → (∀ b o, H b = some o → ∃ xs, o = .tup xs) → BindsTo s fd args (ps.zip us) → Vals vs us → sp vs H out →
    codeAny (model P w) A (.call (.ref f) args) (fun r s' => ∃ a g c go, r = .ok (.ret (.ref a)) ∧ Fresh2 P w base k outer H s out nm a g c go s') s
section
variable {P : Program} {w : World} {K : PySem.W.Frag} {mg : Str → Option Value} {base : Heap}
theorem gfn2_of {k : Nat} {f : Addr} {name qual : Str} {params : Arguments} {body : List Stmt} {scope : Scope} {dV kV doc pm cdv ct oc : Value} {an od : Option Addr}
    {osl : Array (Option Value)} {N ps nm : List Str} {sp : SpT} (lk : K.lookup f = some ⟨oc, od, .func (PySem.W.fnOf name qual params body scope dV kV doc pm an cdv ct), osl⟩) (hcd : PySem.W.codeIn K cdv qual = true) (S : L2.GScope N ps scope)
    (hnc : ∀ n, cellsFrom n scope.names [] = []) (hnm : ∀ x ∈ nm, x ∉ ps) (len : ∀ vs H out, sp vs H out → vs.length = ps.length)
    (hbody : ∀ (A : Around) (outer : List Env) (s : Shared) (H : Hp) (vs out : List V) (a : Addr) (go : Obj), Room k (A.deeper (envOfC qual scope s.heap.objs.size f cdv)) → GOk (gcxOf P w K mg base N qual scope f cdv A outer s H EN [(a, go)]) a go nm → sp vs H out →
      ∃ t, Does2 (gcxOf P w K mg base N qual scope f cdv A outer s H EN [(a, go)]) a go nm out (execs body (gcxOf P w K mg base N qual scope f cdv A outer s H EN [(a, go)]).env) t ∧
        t { nx := fun k _ H' => k = out.length ∧ Same H H', rt := fun k v H' => v = .non ∧ k = out.length ∧ Same H H' } 0 (start N vs) H) :
    GFn2 P w K mg base (k + 1) f (PySem.W.fnOf name qual params body scope dV kV doc pm an cdv ct) ps nm sp := by
  refine ⟨len, fun A outer s H args us vs out hr e0 hT hb r hsp => ?_⟩
  have hl := len _ _ _ hsp
  have same := fun b o e => (e0.bs b o e).1
  have KX : K.In s.heap := e0.mod.kin.keeps same
  have lim : s.heap.NoLimit := e0.mod.nolimit.keeps same
  have hkind : ∀ y ∈ ps.zip us, scope.names.lookup y.1 = some .local ∨ (scope.names.lookup y.1 = some .cell ∧ ((cellsFrom (s.heap.objs.size + 1) scope.names []).lookup y.1).isSome = true) := by
    rintro ⟨y, v⟩ hy
    exact (S.par y (List.of_mem_zip hy).1).imp id fun q => ⟨q, PySem.W.cellsFrom_some _ _ _ (.inl q)⟩
  refine codeAny_call_generator hr.depth (KX _ _ lk) rfl S.co S.gen rfl (PySem.W.codeRec_of KX hcd) (hb _ _ _ _ ?_)
  refine wpAny_newFunctionEnv_cells S.kind hkind fun env he s1 x => ?_
  subst he
  refine ⟨lim.keeps x.toInCall.keep, ?_⟩
  have kp1 : ∀ b o, s.heap.get? b = some o → s1.heap.get? b = some o := x.toInCall.keep
  have lim1 : s1.heap.NoLimit := lim.keeps kp1
  have lt1 : s.heap.objs.size < s1.heap.objs.size := x.toInCall.ns.lt
  have ns1 : s1.heap.Ns s.heap.objs.size (bindL (envOfC qual scope s.heap.objs.size f cdv).kindOf (ps.zip us) fun _ => none) := x.toInCall.ns
  obtain ⟨h1, tk, es1, hk1⟩ := x.done
  have os1 : s1.os = s.os := by rw [es1]
  have gen1 : s1.gens = s.gens := by rw [es1]
  have main : ∀ (go : Obj) (n1 qn : Value) (tk2 : Nat), go.cls = .type "generator" → go.data = .fields #[.int s1.gens.size 0, n1, qn] → go.slots = #[] → (∀ h : Heap, (h.push go).get? h.objs.size = some go) →
      Fresh2 P w base (k + 1) outer H s out nm s1.heap.objs.size s1.gens.size (.func body (envOfC qual scope s.heap.objs.size f cdv)) go { s1 with gens := s1.gens.push (.fresh (.func body (envOfC qual scope s.heap.objs.size f cdv))), toks := tk2, heap := s1.heap.push go } := by
    intro go n1 qn tk2 g1 g2 g3 g4
    have isg : ∀ h : Heap, h.get? s1.heap.objs.size = some go → h.IsGen s1.heap.objs.size s1.gens.size := fun h e => ⟨go, n1, qn, e, g1, g2, g3⟩
    have noc : NoC go := fun v q => by rw [g2] at q; cases q
    have kp2 : ∀ b o, s1.heap.get? b = some o → (s1.heap.push go).get? b = some o := fun b o e => Heap.get?_push_of_some _ e
    have hrefs : nm.filterMap (refAt s.heap.objs.size (s1.heap.push go)) = [] := by
      refine List.filterMap_eq_nil_iff.mpr fun y hy => ?_
      have hns := ns1.keeps kp2
      unfold refAt
      rw [← hns.eq_nsMap, bindL_out fun v hv => hnm _ hy (List.of_mem_zip hv).1]
    have hown : ownF s1.heap.objs.size s.heap.objs.size nm (s1.heap.push go) = [s1.heap.objs.size, s.heap.objs.size] := by
      unfold ownF
      rw [hrefs]
    refine { lo := Nat.le_of_lt lt1, goat := g4 _, noc := noc, gen := isg, at_ := Array.getElem?_push_size .., os := os1, bare := AllBare.push (by rw [gen1]; exact e0.bare) rfl, lim := lim1.keeps kp2, keep := fun b o e => kp2 b o (kp1 b o e), onw := ?_, own := hown, frame := ?_, tups := hT, clean := fun c => by rw [← gen1] at c; exact c.push, wake := ?_ }
    · show s.heap.objs.size < (s1.heap.push go).objs.size
      rw [Heap.size_push]; exact Nat.lt_succ_of_lt lt1
    · obtain ⟨o, es, ep, ho, hd, _⟩ := ns1
      exact ⟨o, kp2 _ _ ho, fun v q => by rw [hd] at q; cases q⟩
    intro Aw s2 hrw hfr z
    have e0w : Env0 P w K mg base Aw outer s H := ⟨hfr, e0.mod, e0.bs, e0.bsz, e0.funs, e0.frf, e0.hok, e0.bare⟩
    have I1 : Inv (gcxOf P w K mg base N qual scope f cdv Aw outer s H EN []) [] (start N vs) H s1 := L2.inv_startG S hrw.hd e0w hl r x
    have I2 : Inv (gcxOf P w K mg base N qual scope f cdv Aw outer s H EN []) [] (start N vs) H { s1 with gens := s1.gens.push (.fresh (.func body (envOfC qual scope s.heap.objs.size f cdv))), toks := tk2, heap := s1.heap.push go } :=
      I1.call' (ch := []) rfl (Un.kept kp2) (I1.hok.kept kp2) (AllBare.push I1.bare rfl) fun b z => absurd z (by simp)
    have nL : s1.heap.objs.size ≠ s.heap.objs.size := Nat.ne_of_gt lt1
    have I3 : Inv (gcxOf P w K mg base N qual scope f cdv Aw outer s H EN [(s1.heap.objs.size, go)]) [] (start N vs) H { s1 with gens := s1.gens.push (.fresh (.func body (envOfC qual scope s.heap.objs.size f cdv))), toks := tk2, heap := s1.heap.push go } := by
      refine Inv.pinnedG I2 fun p hp => ?_
      rw [List.append_nil] at hp
      rw [List.mem_singleton.mp hp]
      exact ⟨g4 _, I1.hok.fresh (Nat.le_refl _), nL, I1.nofs (Nat.le_refl _), noc⟩
    have G : GOk (gcxOf P w K mg base N qual scope f cdv Aw outer s H EN [(s1.heap.objs.size, go)]) s1.heap.objs.size go nm :=
      ⟨hnc _, rfl, rfl, rfl, Nat.le_of_lt lt1, noc, fun b o e => ⟨e0.hok.lt e, hT b o e⟩⟩
    have r0 : Run2 (gcxOf P w K mg base N qual scope f cdv Aw outer s H EN [(s1.heap.objs.size, go)]) s1.heap.objs.size go nm (start N vs) H s2 s2 := by
      have q := wokenI (s0 := s) G I3 (Nat.le_refl _) rfl z (by
        show ∀ b ∈ nm.filterMap (refAt s.heap.objs.size (s1.heap.push go)), _
        rw [hrefs]
        exact fun b hb => nomatch hb)
      have e : (fun b => if b ∈ nm.filterMap (refAt (gcxOf P w K mg base N qual scope f cdv Aw outer s H EN [(s1.heap.objs.size, go)]).env.locals (s1.heap.push go)) then H b else H b) = H := by
        funext b
        split <;> rfl
      exact (congrArg (fun h => Run2 _ _ _ _ _ h s2 s2) e).mp q
    obtain ⟨t, ht, hq⟩ := hbody Aw outer s H vs out s1.heap.objs.size go (hrw.deeper _) G hsp
    refine seg_func ?_
    refine seg_imp (R := fun n s₀ r s' => match r with
        | .ok (.ret u) => u = .none ∧ ∃ k σ' H', n + k = sizeLine ∧ Run2 (gcxOf P w K mg base N qual scope f cdv Aw outer s H EN [(s1.heap.objs.size, go)]) s1.heap.objs.size go nm σ' H' s₀ s' ∧ k = out.length ∧ Same H H'
        | .ok _ => False
        | .error e => CX P w outer H s EN e s')
      (Y := Item2 (gpOf (gcxOf P w K mg base N qual scope f cdv Aw outer s H EN [(s1.heap.objs.size, go)]) s1.heap.objs.size go nm) out) (fun n s₀ r s' hR => ?_) (fun n s₀ v s' kap kap' hkk hY => ?_) sizeLine ?_
    · cases r with
      | error e =>
        obtain ⟨_, _, _, _, _, _, _, _, _, _, _, _, bad⟩ := (show CX P w outer H s EN e s' from hR)
        exact False.elim bad
      | ok fl =>
        cases fl with
        | next => exact False.elim hR
        | brk => exact False.elim hR
        | cont => exact False.elim hR
        | ret u =>
          obtain ⟨rfl, k', σ', H', hn, r', rfl, sm⟩ := hR
          have kk := r'.kept G sm
          obtain ⟨cp, cov, J⟩ := r'
          exact .inl ⟨.inl rfl, hn, J.os, J.bare, kk⟩
    · obtain ⟨y1, y2, y3, y4, y5, y6, y7, y8⟩ := hY
      exact ⟨y1, y2, y3, y4, y5, y6, y7, fun s'' z => ⟨hkk _ _ (y8 s'' z).1, hkk _ _ (y8 s'' z).2⟩⟩
    · refine ht Aw _ sizeLine 0 s2 _ [] _ _ id id s2 (start N vs) H _ ⟨over_func, rfl, rfl, rfl⟩ (Nat.add_zero _) ⟨fun n k' s₀ s' fl hn hs => ?_, fun n s₀ e s' hx => ?_⟩ r0 hq
      · cases fl with
        | next =>
          obtain ⟨σ', H', r', e, hQ⟩ := hs
          exact seg_end (.ok (.ret .none)) ⟨rfl, k', σ', H', hn, r', e, hQ⟩
        | brk => obtain ⟨_, _, _, q⟩ := hs; exact False.elim q
        | cont => obtain ⟨_, _, _, q⟩ := hs; exact False.elim q
        | ret u =>
          obtain ⟨v, σ', H', r', rv, e1, e, hQ⟩ := hs
          subst e1
          have eu : u = Value.none := rv
          subst eu
          exact seg_end (.ok (.ret .none)) ⟨rfl, k', σ', H', hn, r', e, hQ⟩
      · refine seg_wrap ?_
        rw [over_func]
        exact wpAny_mono (show wpAny (model P w) (Aw.deeper (envOfC qual scope s.heap.objs.size f cdv)) (leaving (envOfC qual scope s.heap.objs.size f cdv) e) (fun _ s'' => CX P w outer H s EN e s'' ∧ ∀ p ∈ [(s1.heap.objs.size, go)], s''.heap.get? p.1 = some p.2) (fun _ _ => False) s' from hx) (fun _ s'' q => seg_end (.error e) q.1) fun _ s'' q => q.elim
  exact ⟨_, _, _, _, rfl, main _ _ _ _ rfl rfl rfl fun h => Heap.get?_push_size _ rfl⟩
end
end Own

namespace Own
open PySem PySem.Spec PyProof.Rows L2 SX GenW
/-! ### for x in g(..): any body -/
/-- a thing whose object is no cell -/
def PlainO : HO → Prop
  | .own _ => False
  | .frz _ _ => False
  | .ext _ => False
  | _ => True
theorem noc_plain {P : Program} {w : World} {H : Hp} {h : Heap} {b : Addr} {o : HO} {u : Obj} (p : PlainO o) (x : ObjOk P w H h b o) (e : h.get? b = some u) : NoC u := by
  have go : ∀ {d : Data}, u.data = d → (∀ v, d ≠ .cell v) → NoC u := fun q z v hv => z v (q.symm.trans hv)
  cases o with
  | lst xs => obtain ⟨_, _, _, _, q⟩ := x; rw [e] at q; cases q; exact fun v hv => nomatch hv
  | tup xs => obtain ⟨_, _, _, ob, q, _, n, hd⟩ := x; rw [e] at q; cases q; exact go hd fun v hv => nomatch hv
  | dK kvs => obtain ⟨_, _, _, _, ob, _, _, q, _, hd, _⟩ := x; rw [e] at q; cases q; exact go hd fun v hv => nomatch hv
  | dT kvs => obtain ⟨_, _, _, _, ob, _, _, q, _, hd, _⟩ := x; rw [e] at q; cases q; exact go hd fun v hv => nomatch hv
  | set S n => obtain ⟨ob, _, _, _, q, _, hd, _⟩ := x; rw [e] at q; cases q; exact go hd fun v hv => nomatch hv
  | ins C dx fs => obtain ⟨_, _, _, q, _⟩ := x; rw [e] at q; cases q; exact fun v hv => nomatch hv
  | xd fs => obtain ⟨_, ⟨_, _, _, q, hd, _⟩, _⟩ := x; rw [e] at q; cases q; exact go hd fun v hv => nomatch hv
  | rng lo hi => obtain ⟨_, _, _, q⟩ := x; rw [e] at q; cases q; exact fun v hv => nomatch hv
  | tbl ps =>
    have q : h.get? b = some { cls := .none, data := .fields ps } := x
    rw [e] at q; cases q; exact fun v hv => nomatch hv
  | met f y =>
    have q : h.get? b = some (PySem.W.methodObj (.ref f) (.ref y)) := x
    rw [e] at q; cases q; exact fun v hv => nomatch hv
  | _ => exact p.elim
/-- all that is young is no cell -/
def Good2 (n : Nat) (H : Hp) (h : Heap) : Prop := ∀ b o u, H b = some o → h.get? b = some u → b < n ∨ NoC u
/-- some young things are forgotten -/
def Drp (H1 H Hd : Hp) : Prop := (∀ b o, Hd b = some o → H b = some o) ∧ ∀ b o, H b = some o → ((∃ u, H1 b = some u) ∨ PlainO o) → Hd b = some o
section
variable {P : Program} {w : World} {H H' : Hp} {h : Heap} {b : Addr} {o : HO}
theorem objok_mono (ho : ∀ c m, H c = some (.own b) → h.Ns1 c m → H' c = some (.own b)) (ht : ∀ c xs, H c = some (.tup xs) → H' c = some (.tup xs)) (x : ObjOk P w H h b o) : ObjOk P w H' h b o := by
  induction o with
  | dT kvs =>
    obtain ⟨z, y, xs, r, q⟩ := x
    exact ⟨z, y, xs, Paired.mapP r fun p q z => ⟨z.1, ht _ _ z.2.1, z.2.2⟩, q⟩
  | ins C dx fs => obtain ⟨d, z, ne, e, mA, q, r⟩ := x; exact ⟨ho _ _ d q, z, ne, e, mA, q, r⟩
  | frz ob u ih => obtain ⟨e, q⟩ := x; exact ⟨e, ih q⟩
  | lst xs => exact x
  | tup xs => exact x
  | dK kvs => exact x
  | set S n => exact x
  | own y => exact x
  | xd fs => exact x
  | rng lo hi => exact x
  | tbl ps => exact x
  | met f y => exact x
  | ext φ => exact x
end
open Classical in
noncomputable def dropH (n : Nat) (h : Heap) (H : Hp) : Hp := fun b => match H b with
  | some o => if b < n ∨ PlainO o ∨ ((∃ x, o = .own x) ∧ ∃ m, h.Ns1 b m) then some o else none
  | none => none
section
variable {n : Nat} {h : Heap} {H : Hp} {b : Addr} {o : HO}
theorem drop_sub (e : dropH n h H b = some o) : H b = some o ∧ (b < n ∨ PlainO o ∨ ((∃ x, o = .own x) ∧ ∃ m, h.Ns1 b m)) := by
  unfold dropH at e
  cases q : H b with
  | none => rw [q] at e; cases e
  | some u =>
    rw [q] at e
    dsimp only at e
    split at e
    · rename_i c; cases e; exact ⟨rfl, c⟩
    · cases e
theorem drop_get (e : H b = some o) (c : b < n ∨ PlainO o ∨ ((∃ x, o = .own x) ∧ ∃ m, h.Ns1 b m)) : dropH n h H b = some o := by
  unfold dropH
  rw [e]
  exact if_pos c
theorem drop_none (e : H b = none) : dropH n h H b = none := by unfold dropH; rw [e]
end
section
variable {X : Cx} {pins : List (Addr × Obj)} {σ : L2.St} {H : Hp} {s : Shared} {n : Nat}
theorem good_drop (I : Inv X pins σ H s) : Good2 n (dropH n s.heap H) s.heap := fun b o u e eu => by
  obtain ⟨e1, c⟩ := drop_sub e
  rcases c with c | c | ⟨_, m, ob, es, ep, q, hd, _⟩
  · exact .inl c
  · exact .inr (noc_plain c (I.hok b o e1) eu)
  · rw [eu] at q; cases q
    exact .inr fun v hv => by rw [hd] at hv; cases hv
/-- what was tracked at the entry is old -/
theorem inv_drop (I : Inv X pins σ H s) (hf : ∀ b o u, X.H_0 b = some (.frz o u) → b < n) : Inv X pins σ (dropH n s.heap H) s := by
  have tup : ∀ b xs, H b = some (.tup xs) → dropH n s.heap H b = some (.tup xs) := fun b xs e => drop_get e (.inr (.inl trivial))
  refine ⟨I.ok, I.os, I.bare, ⟨I.base.keep, I.base.slot, fun b o e n hx => drop_none (I.base.free b o e n hx), I.base.there, fun b xs e => tup b xs (I.base.tups b xs e), fun b o u e => drop_get (I.base.frzs b o u e) (.inl (hf b o u e)), fun b ps e => ?_⟩,
    I.loc, I.cell, drop_none I.free, fun x c e => drop_none (I.freeC x c e), fun p hp => ?_, fun b o e => ?_, I.len⟩
  · obtain ⟨more, q⟩ := I.base.tbls b ps e
    exact ⟨more, drop_get q (.inr (.inl trivial))⟩
  · obtain ⟨h1, h2, h3⟩ := I.pin p hp
    exact ⟨h1, drop_none h2, h3⟩
  · exact objok_mono (fun c m e q => drop_get e (.inr (.inr ⟨⟨_, rfl⟩, m, q⟩))) tup (I.hok b o (drop_sub e).1)
theorem drp_drop {H1 : Hp} (old : ∀ b o, H1 b = some o → b < n) : Drp H1 H (dropH n s.heap H) :=
  ⟨fun b o e => (drop_sub e).1, fun b o e c => drop_get e (c.elim (fun ⟨u, z⟩ => .inl (old b u z)) fun z => .inr (.inl z))⟩
/-- the generator has run: the consumer's things stand as they stood -/
theorem after_gen {g : Gp} {s1 : Shared} (I : Inv X pins σ H s) (K : KeptG g s.heap s1.heap) (hP : g.P = X.prog) (hw : g.w = X.w) (ho : g.outer = X.stack) (hG : Good2 g.sz H s.heap) (sub : ∀ b o, g.Hg b = some o → H b = some o ∧ ∃ xs, o = .tup xs)
    (own : ∀ b ∈ g.own s.heap, FpOk X pins H b) (os : s1.os = s.os) (bare : AllBare s1.gens) (l0 : X.s_0.heap.objs.size ≤ g.sz) (lL : X.env.locals < g.sz) (lC : ∀ x c, X.env.cells.lookup x = some c → c < g.sz) : Inv X pins σ H s1 := by
  obtain ⟨P, w, base, outer, Hg, sz, os0, a, go, nm⟩ := g
  cases hP
  cases hw
  have ho : outer = X.stack := ho
  subst ho
  have gn : ∀ b, H b = none → Hg b = none := fun b e => by
    cases q : Hg b with
    | none => rfl
    | some o => rw [(sub b o q).1] at e; cases e
  obtain ⟨ch, hch⟩ : ∃ ch : List Addr, ∀ b, b ∈ ch ↔ b < s.heap.objs.size ∧ (b ∈ (⟨X.prog, X.w, base, X.stack, Hg, sz, os0, a, go, nm⟩ : Gp).own s.heap ∨ (sz ≤ b ∧ ∃ o, s.heap.get? b = some o ∧ ¬ NoC o)) := by
    classical
    exact ⟨(List.range s.heap.objs.size).filter fun b => decide (b ∈ (⟨X.prog, X.w, base, X.stack, Hg, sz, os0, a, go, nm⟩ : Gp).own s.heap ∨ (sz ≤ b ∧ ∃ o, s.heap.get? b = some o ∧ ¬ NoC o)), fun b => by
      rw [List.mem_filter, List.mem_range, decide_eq_true_iff]⟩
  have nch : ∀ b o, s.heap.get? b = some o → b ∉ ch → b ∉ (⟨X.prog, X.w, base, X.stack, Hg, sz, os0, a, go, nm⟩ : Gp).own s.heap ∧ (b < sz ∨ NoC o) := fun b o e n => by
    refine ⟨fun z => n ((hch b).mpr ⟨Heap.lt_size e, .inl z⟩), ?_⟩
    by_cases hb : b < sz
    · exact .inl hb
    · refine .inr (Classical.byContradiction fun z => n ((hch b).mpr ⟨Heap.lt_size e, .inr ⟨Nat.le_of_not_lt hb, o, e, z⟩⟩))
  have any : ∀ b o, s.heap.get? b = some o → H b = none → b ∉ ch → b ∉ frs X.stack → s1.heap.get? b = some o := fun b o e n hc hf => K.keep b o e (gn b n) (nch b o e hc).1 (nch b o e hc).2 hf
  have trk : ∀ b o u, H b = some o → (∀ xs, o ≠ .tup xs) → s.heap.get? b = some u → s1.heap.get? b = some u := fun b o u e nt eu => by
    refine K.keep b u eu ?_ (fun z => ?_) (hG b o u e eu) fun z => ?_
    · cases q : Hg b with
      | none => exact q
      | some v =>
        obtain ⟨e2, xs, e3⟩ := sub b v q
        rw [e] at e2
        cases e2
        exact (nt xs e3).elim
    · rw [(own b z).1] at e; cases e
    · rw [I.stkFree b z] at e; cases e
  refine I.call' (ch := ch) os ⟨fun b o e n hf hc => any b o e n hc hf, fun b o e _ hb _ => K.slot b o e hb, fun b o _ n _ => n, fun b o e hc => ?_, fun _ _ e => e, fun _ _ _ e => e, fun b ps e => ⟨#[], by rw [e]; simp⟩⟩ (fun b o e => ?_) bare fun b hb => ?_
  · by_cases hf : b ∈ frs X.stack
    · obtain ⟨sl, q⟩ := K.slot b o e hf
      exact ⟨_, q⟩
    · cases q : H b with
      | none => exact ⟨o, any b o e q hc hf⟩
      | some v =>
        cases q2 : Hg b with
        | none => exact ⟨o, K.keep b o e q2 (nch b o e hc).1 (nch b o e hc).2 hf⟩
        | some z =>
          obtain ⟨e2, xs, e3⟩ := sub b z q2
          subst e3
          obtain ⟨_, its, _, ob, eo, _⟩ := K.tups b xs q2
          exact ⟨ob, eo⟩
  · cases q2 : Hg b with
    | some z =>
      obtain ⟨e2, xs, e3⟩ := sub b z q2
      subst e3
      rw [e] at e2
      cases e2
      exact K.tups b xs q2
    | none =>
      refine (I.hok b o e).stay (fun c u hc eu => ?_) (fun _ e => e) fun _ _ e => e
      rcases hc with rfl | hc
      · refine K.keep _ u eu q2 (fun z => ?_) (hG _ o u e eu) fun z => ?_
        · rw [(own _ z).1] at e; cases e
        · rw [I.stkFree _ z] at e; cases e
      · exact trk c _ u hc (fun xs z => nomatch z) eu
  · obtain ⟨h1, h2⟩ := (hch b).mp hb
    rcases h2 with h2 | ⟨h2, ob, h3, h4⟩
    · obtain ⟨_, f1, _, f3, f4, f5⟩ := own b h2
      exact ⟨f3, f1, f4, f5⟩
    · refine ⟨.inr (Nat.le_trans l0 h2), fun z => ?_, fun x c e z => ?_, fun p hp z => ?_⟩
      · rw [z] at h2; exact absurd lL (Nat.not_lt.mpr h2)
      · rw [← z] at h2; exact absurd (lC x c e) (Nat.not_lt.mpr h2)
      · obtain ⟨q1, _, _, _, q5⟩ := I.pin p hp
        rw [z, h3] at q1
        cases q1
        exact h4 q5
end

/-! ### what does not ask which generators sleep -/
def GF (X : Cx) : Prop := ∀ O s t e, Sim O s t → (∀ i y, O i = some y → y.bare = true) → X.xe e s → X.xe e t
theorem GF.never {X : Cx} (h : ∀ e s, ¬ X.xe e s) : GF X := fun _ s _ e _ _ x => (h e s x).elim
section
variable {X : Cx} {pins : List (Addr × Obj)} {σ : L2.St} {H : Hp} {s t : Shared} {O : Nat → Option GenState} {D : Ends} {f : Flow}
theorem inv_gens (I : Inv X pins σ H s) (os : t.os = s.os) (hp : t.heap = s.heap) (b : AllBare t.gens) : Inv X pins σ H t :=
  I.call' (ch := []) os (by rw [hp]; exact Un.refl) (by rw [hp]; exact I.hok) b fun _ z => nomatch z
theorem Sim.heap (S : Sim O s t) : t.heap = s.heap ∧ t.os = s.os := by
  obtain ⟨_, _, e⟩ := S
  rw [e]; exact ⟨rfl, rfl⟩
theorem inv_sim (S : Sim O s t) (hb : ∀ i y, O i = some y → y.bare = true) (I : Inv X pins σ H s) : Inv X pins σ H t := inv_gens I S.heap.2 S.heap.1 (bare_rel S.2.1 I.bare hb)
theorem sp_sim (S : Sim O s t) (hb : ∀ i y, O i = some y → y.bare = true) (h : SP X pins D f s) : SP X pins D f t := by
  cases f with
  | next => obtain ⟨σ', H', I, q⟩ := h; exact ⟨σ', H', inv_sim S hb I, q⟩
  | brk => obtain ⟨σ', H', I, q⟩ := h; exact ⟨σ', H', inv_sim S hb I, q⟩
  | cont => obtain ⟨σ', H', I, q⟩ := h; exact ⟨σ', H', inv_sim S hb I, q⟩
  | ret u => obtain ⟨v, σ', H', I, r, q⟩ := h; exact ⟨v, σ', H', inv_sim S hb I, r, q⟩
/-- all that sleeps may be taken for asleep for ever -/
theorem wpAny_asleep {α : Type} {A : Around} {M : Model} {x : Sem α} {Q : α → Shared → Prop} {E : Value → Shared → Prop} (h : wpAny M A x Q E { s with gens := s.gens.map pz }) :
    wpAny M A x (fun a t => ∃ s', Sim (sleepers s.gens) s' t ∧ Q a s') (fun e t => ∃ s', Sim (sleepers s.gens) s' t ∧ E e s') s :=
  wpAny_sim (s := { s with gens := s.gens.map pz }) ⟨clean_sleepers _, rel_sleepers _, rfl⟩ h
theorem bare_sleepers {g : Array GenState} (b : AllBare g) : ∀ i y, sleepers g i = some y → y.bare = true := fun i y e => by
  unfold sleepers at e
  split at e
  · rename_i q
    cases e
    exact b _ (Array.mem_of_getElem? q)
  · cases e
end
/-- one that sleeps -/
def oneG (g : Nat) (x : GenState) : Nat → Option GenState := fun i => if i = g then some x else none
theorem rel_one {G : Array GenState} {g : Nat} {x : GenState} (h : G[g]? = some x) (hx : Sus x) : RelG (oneG g x) (G.setIfInBounds g (pz x)) G := by
  have hl := (Array.getElem?_eq_some_iff.mp h).1
  refine ⟨(Array.size_setIfInBounds ..).symm, fun i => ⟨fun y e => ?_, fun e => ?_⟩⟩
  · unfold oneG at e
    split at e
    · rename_i q
      subst q
      cases e
      exact ⟨hx, by rw [Array.getElem?_setIfInBounds_self, if_pos hl], h⟩
    · cases e
  · unfold oneG at e
    split at e
    · cases e
    · rename_i q
      rw [Array.getElem?_setIfInBounds_ne (Ne.symm q)]
theorem clean_one {G : Array GenState} {g : Nat} {x : GenState} (c : CleanG G) : CleanG (G.setIfInBounds g (pz x)) := c.set fun k l d p fs cl e => by
  cases x with
  | suspended k' l' d' p' fs' cl' =>
    have e : GenState.suspended _ l' d' p' (fs'.map dumF) cl' = .suspended k l d p fs cl := e
    injection e with _ _ _ _ e5 _
    rw [← e5]
    exact split_dum fs'
  | _ => cases e
theorem clean_back {g : Nat} {x : GenState} {s t : Shared} (S : Sim (oneG g x) s t) (hx : ∀ k l d p fs cl, x = .suspended k l d p fs cl → splitAtGen fs = none) : CleanG t.gens := fun i k l d p fs cl e => by
  by_cases hi : i = g
  · subst hi
    obtain ⟨_, _, q⟩ := (S.2.1.2 i).1 x (by unfold oneG; rw [if_pos rfl])
    rw [q] at e
    exact hx k l d p fs cl (Option.some.inj e)
  · rw [(S.2.1.2 i).2 (by unfold oneG; rw [if_neg hi])] at e
    exact S.1 i k l d p fs cl e
end Own

namespace Own
open PySem PySem.Spec PyProof.Rows L2 SX GenW
/-! ### a comprehension over a generator: [x for x in o.m(..)] -/
section
variable {P : Program} {w : World} {A : Around} {outer : List Env} {H : Hp} {sc : Shared} {out : List V} {Qe : Hp → Prop} {C D a : Addr} {g : Nat}
end
/-- the names of its own scope -/
def OneN (ns : List (Str × NameKind)) (x : Str) : Prop := ns = [(x, NameKind.local)] ∨ (ns = [(Str.ofString ".0", NameKind.local), (x, NameKind.local)] ∧ (x == Str.ofString ".0") = false)
theorem OneN.loc {ns : List (Str × NameKind)} {x : Str} (h : OneN ns x) : ∀ y ∈ ns, y.2 = .local := fun y hy => by
  rcases h with h | ⟨h, _⟩
  · rw [h] at hy
    rw [List.mem_singleton.mp hy]
  · rw [h] at hy
    rcases List.mem_cons.mp hy with rfl | hy
    · rfl
    · rw [List.mem_singleton.mp hy]
theorem OneN.at {ns : List (Str × NameKind)} {x : Str} (h : OneN ns x) : ns.lookup x = some .local := by
  rcases h with h | ⟨h, e⟩
  · rw [h, List.lookup_cons, beq_self_eq_true]
  · rw [h, List.lookup_cons, e, List.lookup_cons, beq_self_eq_true]
theorem OneN.all {ns : List (Str × NameKind)} {x : Str} (h : OneN ns x) : ∀ y ∈ ns, ns.lookup y.1 = some .local := fun y hy => by
  have a := h.at
  rcases h with h | ⟨h, e⟩
  · rw [h] at hy
    rw [List.mem_singleton.mp hy]; exact a
  · rw [h] at hy
    rcases List.mem_cons.mp hy with rfl | hy
    · rw [h, List.lookup_cons]; rfl
    · rw [List.mem_singleton.mp hy]; exact a
theorem OneN.cells {ns : List (Str × NameKind)} {x : Str} (h : OneN ns x) (k : Heap) : pushCells k ns = k := by
  rcases h with h | ⟨h, _⟩ <;> rw [h] <;> rfl
section
variable {X : Cx} {k : Nat}
end
end Own

namespace Own
open PySem PySem.Spec PyProof.Rows L2 SX GenW
/-! ### the loop -/
/-- what a generator hands out, and the heap behind its call -/
abbrev TGen2 := L2.St → Hp → (List V → Hp → Prop) → Prop
structure PGen2 (X : Cx) (k : Nat) (nm : List Str) (e : Expr) (tg : TGen2) : Prop where
  run : ∀ (pins : List (Addr × Obj)) (s : Shared) (σ : L2.St) (H : Hp) (cont : List V → Hp → Prop), Inv X pins σ H s → tg σ H cont → wpAny (model X.prog X.w) X.A (eval e X.env)
    (fun u s' => ∃ H1 Hg sc out a g c go, u = .ref a ∧ Inv X pins σ H1 sc ∧ (∀ b o, Hg b = some o → H1 b = some o) ∧ Fresh2 X.prog X.w X.base k X.stack Hg sc out nm a g c go s' ∧ cont out H1) X.xe s
def KeepT (H1 H : Hp) : Prop := ∀ b xs, H1 b = some (.tup xs) → H b = some (.tup xs)
def tForG (tg : TGen2) (g : TG) (tb : TS) : TS := fun D σ H => tg σ H fun out H1 => ∃ Pv : Nat → L2.St → Hp → Prop, Pv 0 σ H1 ∧ (∀ i σ H, Pv i σ H → KeepT H1 H) ∧
  (∀ i x σ H, out[i]? = some x → Pv i σ H → g x σ H fun σ2 H2 => tb { D with nx := fun σ' H' => ∀ Hd, Drp H1 H' Hd → Pv (i + 1) σ' Hd, ct := fun σ' H' => ∀ Hd, Drp H1 H' Hd → Pv (i + 1) σ' Hd, bk := D.nx } σ2 H2) ∧
  ∀ σ H, Pv out.length σ H → D.nx σ H
section
variable {X : Cx} {k : Nat} {nm : List Str}
/-- what stands at the beginning of a turn -/
structure Turn2 (X : Cx) (pins : List (Addr × Obj)) (gp : Gp) (out : List V) (g : Nat) (i : Nat) (σ : L2.St) (H : Hp) (gs : GenState) (s : Shared) : Prop where
  inv : Inv X pins σ H s
  clean : CleanG s.gens
  good : Good2 gp.sz H s.heap
  own : ∀ b ∈ gp.own s.heap, gp.sz ≤ b ∧ FpOk X pins H b ∧ ∃ o, s.heap.get? b = some o ∧ NoC o
  goat : s.heap.get? gp.a = some gp.go
  size : gp.sz ≤ s.heap.objs.size
  le : i ≤ out.length
  goes : s.gens[g]? = some gs ∧ gs.Goes (model X.prog X.w) X.A.in1 (Over2 gp out) (Item2 gp out) (sizeLine - i) (.send .none) (s.setGen g .running)
theorem asked {gp : Gp} {out : List V} {pins : List (Addr × Obj)} {g i : Nat} {σ : L2.St} {H : Hp} {gs : GenState} {s : Shared} (hc : X.calm = true) (hr : Room (k + 3) X.A) (T : Turn2 X pins gp out g i σ H gs s) (hg : ∀ h : Heap, h.get? gp.a = some gp.go → h.IsGen gp.a g) :
    wpAny (model X.prog X.w) X.A (pyNext (.ref gp.a)) (fun r s4 => CleanG s4.gens ∧ Onw s.heap s4.heap ∧ g + 1 ≤ s4.gens.size ∧ match r with
      | some v => ∃ s₁ gs', gs'.bare = true ∧ Item2 gp out (sizeLine - i - 1) (s.setGen g .running) v s₁ (fun r' s'' => match sizeLine - i with
          | 0 => False
          | m + 1 => gs'.Goes (model X.prog X.w) X.A.in1 (Over2 gp out) (Item2 gp out) m r' s'') ∧ s4 = s₁.setGen g gs'
      | none => ∃ s₁ h', Done2 gp out (sizeLine - i) (s.setGen g .running) s₁ ∧ (∀ b o, s₁.heap.get? b = some o → h'.get? b = some o) ∧ s4 = { s₁.setGen g .finished with heap := h' }) (fun _ _ => False) s := by
  have hgl : g + 1 ≤ s.gens.size := (Array.getElem?_eq_some_iff.mp T.goes.1).1
  have base : wpAny (model X.prog X.w) X.A (pyNext (.ref gp.a)) (fun r s4 => match r with
      | some v => ∃ s₁ gs', gs'.bare = true ∧ Item2 gp out (sizeLine - i - 1) (s.setGen g .running) v s₁ (fun r' s'' => match sizeLine - i with
          | 0 => False
          | m + 1 => gs'.Goes (model X.prog X.w) X.A.in1 (Over2 gp out) (Item2 gp out) m r' s'') ∧ s4 = s₁.setGen g gs'
      | none => ∃ s₁ h', Done2 gp out (sizeLine - i) (s.setGen g .running) s₁ ∧ (∀ b o, s₁.heap.get? b = some o → h'.get? b = some o) ∧ s4 = { s₁.setGen g .finished with heap := h' }) (fun _ _ => False) s := by
    refine next_genG (Er := fun _ _ => False) (F := Done2 gp out) (T.inv.ok.hd hc) T.inv.nolimit ?_ (hg _ T.goat) T.goes.1 T.goes.2 (fun v s₁ gs' hb hv => ⟨s₁, gs', hb, hv, rfl⟩) (fun s₁ hp h' hk => ⟨s₁, h', hp, hk, rfl⟩) fun e s₁ he => he.elim
    have := hr.dp
    omega
  refine wpAny_gsz hgl (wpAny_mono (wpAny_onw (wpAny_clean T.clean base)) (fun r s4 h hsz => ⟨h.2.1, h.1, hsz, h.2.2⟩) fun e s4 h _ => h.2.2.elim)

/-- what is known throughout a loop over a generator -/
structure Over_ (X : Cx) (gp : Gp) (H1 : Hp) : Prop where
  P : gp.P = X.prog
  w : gp.w = X.w
  base : gp.base = X.base
  outer : gp.outer = X.stack
  os : gp.os = X.s_0.os
  sub : ∀ b o, gp.Hg b = some o → H1 b = some o ∧ ∃ xs, o = .tup xs
  old : ∀ b o, H1 b = some o → b < gp.sz
  l0 : X.s_0.heap.objs.size ≤ gp.sz
  lL : X.env.locals < gp.sz
  lC : ∀ x c, X.env.cells.lookup x = some c → c < gp.sz
  frz : ∀ b o u, X.H_0 b = some (.frz o u) → b < gp.sz
theorem Over_.tup {gp : Gp} {H1 H : Hp} (V : Over_ X gp H1) (k : KeepT H1 H) : ∀ b o, gp.Hg b = some o → H b = some o ∧ ∃ xs, o = .tup xs := fun b o e => by
  obtain ⟨h, xs, rfl⟩ := V.sub b o e
  exact ⟨k b xs h, xs, rfl⟩
/-- an item has been handed out -/
theorem handed {gp : Gp} {out : List V} {pins : List (Addr × Obj)} {g i : Nat} {σ : L2.St} {H H1 : Hp} {gs gs' : GenState} {s s₁ s4 : Shared} {v : Value} {kap : Resume → Shared → Prop} (V : Over_ X gp H1) (hk : KeepT H1 H) (T : Turn2 X pins gp out g i σ H gs s)
    (hb : gs'.bare = true) (it : Item2 gp out (sizeLine - i - 1) (s.setGen g .running) v s₁ kap) (e4 : s4 = s₁.setGen g gs') (onw : Onw s.heap s4.heap) :
    Inv X pins σ H s4 ∧ (∀ b ∈ gp.own s4.heap, gp.sz ≤ b ∧ FpOk X pins H b ∧ ∃ o, s4.heap.get? b = some o ∧ NoC o) ∧ s4.heap.get? gp.a = some gp.go := by
  obtain ⟨y1, y2, y3, y4, y5, y6, y7, y8⟩ := it
  have I := T.inv
  have h4 : s4.heap = s₁.heap := by rw [e4]; rfl
  have b4 : AllBare s4.gens := by rw [e4]; exact allBare_setGen y2 hb
  have o4 : s4.os = s.os := by
    have : s4.os = s₁.os := by rw [e4]; rfl
    rw [this, y1, V.os, I.os]
  refine ⟨after_gen (g := gp) I (by rw [h4]; exact y5) V.P V.w V.outer T.good (V.tup hk) (fun b hb => (T.own b hb).2.1) o4 b4 V.l0 V.lL V.lC, fun b hb => ?_, by rw [h4]; exact y4⟩
  rw [h4] at hb onw ⊢
  obtain ⟨⟨o, eo, no⟩, hw⟩ := y7 b hb
  have hw : b ∈ gp.own s.heap ∨ s.heap.get? b = none ∨ (gp.sz ≤ b ∧ ∃ o, s.heap.get? b = some o ∧ ¬ NoC o) := hw
  rcases hw with hw | hw | ⟨hw, ob, h1, h2⟩
  · exact ⟨(T.own b hw).1, (T.own b hw).2.1, o, eo, no⟩
  · have hge : s.heap.objs.size ≤ b := by
      refine Nat.le_of_not_lt fun z => ?_
      rw [onw.2 b z hw] at eo; cases eo
    exact ⟨Nat.le_trans T.size hge, I.fpOk hge (I.hok.fresh hge), o, eo, no⟩
  · refine ⟨hw, ⟨?_, fun z => ?_, fun z => ?_, .inr (Nat.le_trans V.l0 hw), fun x c e z => ?_, fun p hp z => ?_⟩, o, eo, no⟩
    · cases q : H b with
      | none => rfl
      | some u =>
        rcases T.good b u ob q h1 with z | z
        · exact absurd z (Nat.not_lt.mpr hw)
        · exact (h2 z).elim
    · rw [z] at hw; exact absurd V.lL (Nat.not_lt.mpr hw)
    · obtain ⟨_, ob2, ho, _⟩ := I.ok.funs.mem z
      exact absurd (Nat.lt_of_lt_of_le (Heap.lt_size ho) V.l0) (Nat.not_lt.mpr hw)
    · rw [← z] at hw; exact absurd (V.lC x c e) (Nat.not_lt.mpr hw)
    · obtain ⟨q1, _, _, _, q5⟩ := I.pin p hp
      rw [z, h1] at q1
      cases q1
      exact h2 q5
/-- the body has run; the generator's things were pinned -/
theorem rested {gp : Gp} {out : List V} {pins : List (Addr × Obj)} {g i : Nat} {σ6 : L2.St} {H H6 H1 : Hp} {gs' : GenState} {s₁ s6 : Shared} {h4 : Heap} {v : Value} {s0 : Shared} (V : Over_ X gp H1)
    (I6 : Inv X (pins ++ pinsAt (gp.own h4) h4) σ6 H6 s6) (hk : KeepT H1 (dropH gp.sz s6.heap H6)) (hh : h4 = s₁.heap) (own : ∀ b ∈ gp.own h4, gp.sz ≤ b ∧ FpOk X pins H b ∧ ∃ o, h4.get? b = some o ∧ NoC o) (goat : h4.get? gp.a = some gp.go)
    (it : Item2 gp out (sizeLine - i - 1) s0 v s₁ (fun r' s'' => match sizeLine - i with
          | 0 => False
          | m + 1 => gs'.Goes (model X.prog X.w) X.A.in1 (Over2 gp out) (Item2 gp out) m r' s'')) (clean : CleanG s6.gens) (hgs : s6.gens[g]? = some gs') (hi : i < out.length) :
    Sus gs' ∧ Turn2 X pins gp out g (i + 1) σ6 (dropH gp.sz s6.heap H6) gs' s6 := by
  obtain ⟨y1, y2, y3, y4, y5, y6, y7, y8⟩ := it
  subst hh
  have pin : ∀ b ∈ gp.own s₁.heap, s6.heap.get? b = s₁.heap.get? b ∧ H6 b = none := fun b hb => by
    obtain ⟨_, _, o, eo, _⟩ := own b hb
    have q := I6.pin (b, o) (List.mem_append_right _ (List.mem_append_right _ (mem_pinsAt hb eo)))
    exact ⟨by rw [q.1, eo], q.2.1⟩
  have Iu := I6.unpinned
  have Id := inv_drop (n := gp.sz) Iu V.frz
  have hL : gp.sz ∈ gp.own s₁.heap := List.mem_cons_of_mem _ (List.mem_cons_self ..)
  have eo : gp.own s6.heap = gp.own s₁.heap := ownF_same (pin _ hL).1
  have size : gp.sz ≤ s6.heap.objs.size := by
    obtain ⟨_, _, o, e, _⟩ := own _ hL
    have := (pin _ hL).1
    rw [e] at this
    exact Nat.le_of_lt (Heap.lt_size this)
  have nap : ∀ t : Shared, t.heap = s6.heap → t.os = s6.os → AllBare t.gens → Nap2 gp s₁ t := fun t e1 e2 e3 => by
    refine ⟨by rw [e2, y1, V.os, I6.os], e3, by rw [e1]; exact size, fun b hb => ⟨(own b hb).1, by rw [e1]; exact (pin b hb).1⟩, fun b o e => by rw [e1]; exact I6.bk b o (by rw [V.base] at e; exact e), fun b xs e => ?_, by rw [e1, V.base, V.outer]; exact I6.stack⟩
    rw [e1]
    have q := Id.hok b _ ((V.tup hk b _ e).1)
    have q : ObjOk X.prog X.w _ s6.heap b (.tup xs) := q
    rw [V.P, V.w]
    exact q
  have kap := y8 (s6.setGen g .running) (nap _ rfl rfl (allBare_setGen I6.bare rfl))
  cases hm : sizeLine - i with
  | zero => rw [hm] at kap; exact kap.1.elim
  | succ m =>
    rw [hm] at kap
    refine ⟨?_, Id, clean, good_drop Iu, fun b hb => ?_, ?_, size, hi, hgs, ?_⟩
    · cases gs' with
      | suspended => trivial
      | fresh c => exact nomatch kap.2.1
      | running => exact kap.1.elim
      | finished => exact kap.1.elim
    · rw [eo] at hb
      obtain ⟨h1, ⟨_, h2⟩, o, e, no⟩ := own b hb
      exact ⟨h1, ⟨drop_none (pin b hb).2, h2⟩, o, by rw [(pin b hb).1]; exact e, no⟩
    · rw [(pin _ (List.mem_cons_self ..)).1]; exact goat
    · have e : sizeLine - (i + 1) = m := by omega
      rw [e]
      exact kap.1

theorem ps_forG {iter : Expr} {x : Str} {px pos : Pos} {body : List Stmt} {tg : TGen2} {gt : TG} {tb : TS} (hp : PassesOwn (model X.prog X.w) X.A X.env X.xe) (hx : GF X) (hc : X.calm = true) (hi : PGen2 X k nm iter tg) (hr : Room (k + 3) X.A) (hg : PG X (.Name x px) gt) (hb : PSs X body tb)
    (hs : ∀ x, foldedSetIterable iter X.env x = pure x := by intro _; rfl) : PS X (.For (.Name x px) iter body [] pos) (tForG tg gt tb) := by
  refine ⟨fun pins s σ H D I h => ?_⟩
  have bs := bare_sleepers I.bare
  -- all that sleeps already is of no matter
  have main : ∀ s : Shared, CleanG s.gens → Inv X pins σ H s → wpAny (model X.prog X.w) X.A (exec (.For (.Name x px) iter body [] pos) X.env) (SP X pins D) X.xe s := by
    intro s c I
    refine wpAny_For (wpAny_mono (wpAny_clean c (hi.run pins s σ H _ I h)) (fun u s1 ⟨c1, H1, Hg, sc, out, a, g, cd, go, e, I1, sub, F, Pv, p0, hkeep, hstep, hend⟩ => ?_) fun e s' q => q.2) hs
    subst e
    refine wpAny_pyIter_gen (F.gen _ F.goat) ?_
    obtain ⟨gp, hgp⟩ : ∃ gp : Gp, gp = ⟨X.prog, X.w, X.base, X.stack, Hg, sc.heap.objs.size, sc.os, a, go, nm⟩ := ⟨_, rfl⟩
    have ega : gp.a = a := by rw [hgp]
    have ego : gp.go = go := by rw [hgp]
    have esz : gp.sz = sc.heap.objs.size := by rw [hgp]
    have V : Over_ X gp H1 := by
      subst hgp
      exact ⟨rfl, rfl, rfl, rfl, I1.os, fun b o e => ⟨sub b o e, F.tups b o e⟩, fun b o e => I1.hok.lt e, I1.sz, I1.lt, fun x c e => let ⟨v, q⟩ := I1.cell x c e; q.lt, fun b o u e => I1.hok.lt (I1.base.frzs b o u e)⟩
    have J1 : Inv X pins σ H1 s1 := I1.call' (ch := []) F.os (Un.kept F.keep) (I1.hok.kept F.keep) F.bare fun _ z => nomatch z
    have gen : ∀ h : Heap, h.get? gp.a = some gp.go → h.IsGen gp.a g := by rw [ega, ego]; exact F.gen
    have T0 : Turn2 X pins gp out g 0 σ H1 (.fresh cd) s1 := by
      refine ⟨J1, c1, fun b o u e _ => .inl (by rw [esz]; exact I1.hok.lt e), fun b hb => ?_, by rw [ega, ego]; exact F.goat, by rw [esz]; exact Nat.le_of_lt F.onw, Nat.zero_le _, F.at_, rfl, ?_⟩
      · have ho : gp.own s1.heap = [a, sc.heap.objs.size] := by rw [hgp]; exact F.own
        rw [ho] at hb
        have f : ∀ b, sc.heap.objs.size ≤ b → FpOk X pins H1 b := fun b z => I1.fpOk z (I1.hok.fresh z)
        rcases List.mem_cons.mp hb with rfl | hb
        · exact ⟨by rw [esz]; exact F.lo, f _ F.lo, go, F.goat, F.noc⟩
        · rw [List.mem_singleton.mp hb]
          obtain ⟨o, eo, no⟩ := F.frame
          exact ⟨by rw [esz]; exact Nat.le_refl _, f _ (Nat.le_refl _), o, eo, no⟩
      · have q := F.wake X.A.in1 (s1.setGen g .running) ⟨hr.hd, ?_, ?_⟩ I.ok.frames ?_
        · rw [hgp]; exact q
        · show X.A.depth + 3 * k + 5 < _
          have := hr.dp
          omega
        · show X.A.units + 1 + 16 * k + 200 < _
          have := hr.un
          omega
        · refine ⟨rfl, allBare_setGen F.bare rfl, Nat.le_of_lt F.onw, fun b hb => ⟨?_, rfl⟩, J1.bk, fun b xs e => ?_, J1.stack⟩
          · rw [F.own] at hb
            rcases List.mem_cons.mp hb with rfl | hb
            · exact F.lo
            · rw [List.mem_singleton.mp hb]; exact Nat.le_refl _
          · have q := J1.hok b _ (sub b _ e)
            exact q
    refine codeAny_forLoop_any (fun n s' => ∃ i σ H gs, n = out.length - i ∧ Turn2 X pins gp out g i σ H gs s' ∧ Pv i σ H) ?_ out.length ⟨0, σ, H1, _, rfl, T0, p0⟩
    rintro n s3 ⟨i, σ3, H3, gs, rfl, T, pv⟩
    rw [← ega]
    have hk := hkeep i σ3 H3 pv
    refine wpAny_passesOwn hp (wpAny_mono (asked hc hr T gen) (fun r s4 ⟨c4, onw, hsz, h4⟩ => ?_) fun _ _ z => z.elim)
    cases r with
    | none =>
      obtain ⟨s₁, h', ⟨hn, os1, b1, K⟩, kept, e4⟩ := h4
      have ei : i = out.length := by have := T.le; omega
      subst ei
      have J2 : Inv X pins σ3 H3 s₁ := after_gen (g := gp) T.inv K V.P V.w V.outer T.good (V.tup hk) (fun b hb => (T.own b hb).2.1) (by rw [os1, V.os, T.inv.os]) b1 V.l0 V.lL V.lC
      have J3 : Inv X pins σ3 H3 s4 := by
        rw [e4]
        exact J2.call' (ch := []) rfl (Un.kept kept) (J2.hok.kept kept) (allBare_setGen b1 rfl) fun _ z => nomatch z
      exact wpAny_execs_nil ⟨σ3, H3, J3, hend σ3 H3 pv⟩
    | some v =>
      obtain ⟨s₁, gs', hbare, it, e4⟩ := h4
      obtain ⟨I4, own4, goat4⟩ := handed V hk T hbare it e4 onw
      obtain ⟨⟨j, xx, hn, hx', rx⟩, _⟩ := it.2.2.2.2.2
      have hj : j = i ∧ i < sizeLine := by
        have h1 := (Array.getElem?_eq_some_iff.mp T.goes.1).1
        by_cases hz : sizeLine - i = 0
        · exfalso
          have y8 := it.2.2.2.2.2.2.2
          rw [hz] at y8
          refine (y8 s4 ⟨by rw [e4]; rfl, I4.bare, ?_, fun b hb => ⟨?_, by rw [e4]; rfl⟩, fun b o e => I4.bk b o (by rw [V.base] at e; exact e), fun b xs e => ?_, by rw [V.base, V.outer]; exact I4.stack⟩).1
          · exact Nat.le_trans T.size onw.1
          · have h4 : s4.heap = s₁.heap := by rw [e4]; rfl
            exact (own4 b (by rw [h4]; exact hb)).1
          · have q := I4.hok b _ ((V.tup hk b _ e).1)
            have q : ObjOk X.prog X.w _ s4.heap b (.tup xs) := q
            rw [V.P, V.w]
            exact q
        · omega
      have ej := hj.1
      subst ej
      have hlt : j < out.length := (List.getElem?_eq_some_iff.mp hx').1
      have I4p : Inv X (pins ++ pinsAt (gp.own s4.heap) s4.heap) σ3 H3 s4 := I4.pinned (fun b hb => (own4 b hb).2.1) fun b hb => (own4 b hb).2.2
      have hgs4 : s4.gens[g]? = some gs' := by
        rw [e4]
        have : s₁.gens.size = s4.gens.size := by rw [e4]; exact (setGen_size _ _ _).symm
        exact setGen_at (by omega)
      have hh4 : s4.heap = s₁.heap := by rw [e4]; rfl
      have cl : ∀ k l d p fs cl, gs' = .suspended k l d p fs cl → splitAtGen fs = none := fun k l d p fs cl e => c4 g k l d p fs cl (by rw [hgs4, e])
      -- it sleeps, and cannot be woken by the body
      have sus : Sus gs' := (rested (H6 := H3) (s6 := s4) (σ6 := σ3) V (by exact I4p) (fun b xs e => drop_get (hk b xs e) (.inr (.inl trivial))) hh4 own4 goat4 it c4 hgs4 hlt).1
      have hbO : ∀ i y, oneG g gs' i = some y → y.bare = true := fun i y e => by
        unfold oneG at e
        split at e
        · cases e; exact hbare
        · cases e
      have S4 : Sim (oneG g gs') { s4 with gens := s4.gens.setIfInBounds g (pz gs') } s4 := ⟨clean_one c4, rel_one hgs4 sus, rfl⟩
      have I4s : Inv X (pins ++ pinsAt (gp.own s4.heap) s4.heap) σ3 H3 { s4 with gens := s4.gens.setIfInBounds g (pz gs') } := inv_gens I4p rfl rfl (allBare_setGen (s := s4) I4p.bare (bare_pz hbare))
      show wpAny _ _ (letOwnedTupleGo (.Name x px) (.ref gp.a) v) _ _ _
      refine wpAny_pure ?_
      refine wpAny_passesOwn hp (wpAny_mono (wpAny_sim S4 (hg.run _ _ σ3 H3 xx v _ I4s rx (hstep j xx σ3 H3 hx' pv))) (fun _ s5 ⟨s5', S5, σ5, H5, I5, q5⟩ => ?_) fun e s5 ⟨s5', S5, q⟩ => hx _ _ _ e S5 hbO q)
      refine wpAny_passesOwn hp (wpAny_mono (wpAny_sim S5 (hb.run _ s5' σ5 H5 _ I5 q5)) (fun f s6 ⟨s6', S6, q6⟩ => ?_) fun e s6 ⟨s6', S6, q⟩ => hx _ _ _ e S6 hbO q)
      have q7 := sp_sim S6 hbO q6
      have again : ∀ {σ6 : L2.St} {H6 : Hp}, Inv X (pins ++ pinsAt (gp.own s4.heap) s4.heap) σ6 H6 s6 → (∀ Hd, Drp H1 H6 Hd → Pv (j + 1) σ6 Hd) → ∃ m, m < out.length - j ∧ ∃ i σ H gs, m = out.length - i ∧ Turn2 X pins gp out g i σ H gs s6 ∧ Pv i σ H := fun {σ6 H6} I6 n6 => by
        have pn := n6 _ (drp_drop (s := s6) V.old)
        obtain ⟨_, T6⟩ := rested V I6 (hkeep _ _ _ pn) hh4 own4 goat4 it (clean_back S6 cl) (((S6.2.1.2 g).1 gs' (by unfold oneG; rw [if_pos rfl])).2.2) hlt
        exact ⟨out.length - (j + 1), by omega, j + 1, σ6, _, gs', rfl, T6, pn⟩
      cases f with
      | next => obtain ⟨σ6, H6, I6, n6⟩ := q7; exact again I6 n6
      | cont => obtain ⟨σ6, H6, I6, n6⟩ := q7; exact again I6 n6
      | brk => obtain ⟨σ6, H6, I6, n6⟩ := q7; exact ⟨σ6, H6, I6.unpinned, n6⟩
      | ret v => obtain ⟨y, σ6, H6, I6, ry, n6⟩ := q7; exact ⟨y, σ6, H6, I6.unpinned, ry, n6⟩
  refine wpAny_mono (wpAny_asleep (main _ (clean_sleepers _) (inv_gens I rfl rfl (bare_map I.bare)))) (fun f t ⟨s', S, q⟩ => sp_sim S bs q) fun e t ⟨s', S, q⟩ => hx _ _ _ e S bs q
end
end Own
namespace Own
open PySem PySem.Spec PyProof.Rows L2 SX GenW
/-- the tuples of a heap -/
def tupsOf (H : Hp) : Hp := fun b => match H b with
  | some (.tup xs) => some (.tup xs)
  | _ => none
theorem tupsOf_some {H : Hp} {b : Addr} {o : HO} (e : tupsOf H b = some o) : H b = some o ∧ ∃ xs, o = .tup xs := by
  unfold tupsOf at e
  split at e
  · rename_i xs q
    cases e
    exact ⟨q, xs, rfl⟩
  · cases e
theorem tupsOf_get {H : Hp} {b : Addr} {xs : List V} (e : H b = some (.tup xs)) : tupsOf H b = some (.tup xs) := by unfold tupsOf; rw [e]
theorem tupsOf_none {H : Hp} {b : Addr} (e : H b = none) : tupsOf H b = none := by unfold tupsOf; rw [e]
theorem env0_tups {P : Program} {w : World} {K : PySem.W.Frag} {mg : Str → Option Value} {base : Heap} {A : Around} {outer : List Env} {s : Shared} {H : Hp} (e0 : Env0 P w K mg base A outer s H) : Env0 P w K mg base A outer s (tupsOf H) :=
  ⟨e0.frames, e0.mod, fun b o e => ⟨(e0.bs b o e).1, tupsOf_none (e0.bs b o e).2⟩, e0.bsz, e0.funs, fun b hb => tupsOf_none (e0.frf b hb), fun b o e => by
    obtain ⟨q, xs, rfl⟩ := tupsOf_some e
    have z := e0.hok b _ q
    exact z, e0.bare⟩
section
variable {X : Cx} {k : Nat} {f : Addr} {fd : FuncData} {ps nm : List Str} {sp : SpT} {x : Str} {p pos : Pos} {e : Expr} {es : List Expr} {t : TA}
def tGen2 (sp : SpT) (t : TA) : TGen2 := fun σ H cont => t σ H fun vs H1 => ∃ out, sp vs (tupsOf H1) out ∧ cont out H1
/-- f(e, ..) of a generator def -/
theorem pgn2_call (F : GFn2 X.prog X.w X.K X.mg X.base k f fd ps nm sp) (hr : Room k X.A) (hg : Gl X x) (hm : X.mg x = some (.ref f)) (hk : PySem.W.keepIn X.K (.ref f) = true) (hb : L2.Binds X.K fd ps []) (ha : PA X (e :: es) t)
    (hdb : (x == ("__debug__" : Str)) = false := by decide) (he : starEach (e :: es) X.env = (false, eval e X.env) :: starEach es X.env := by rfl) (hpl : (backTo pos (starEach es X.env)).any (·.1) = false := by rfl) :
    PGen2 X k nm (.Call (.Name x p) (e :: es) [] pos) (tGen2 sp t) := by
  refine ⟨fun pins s σ H cont I h => ?_⟩
  refine wpAny_Call_Name_kw (ld_glob I hg hm ?_ hdb)
  refine PySem.W.callWith_K (h₀ := X.base) I.ok.mod.kin hk (thn (ha.run pos pins s σ H _ I h) fun us s1 ⟨vs, H1, I1, r, out, q, hcont⟩ => ⟨I1.kIn, ?_⟩) he hpl
  have hl := F.len _ _ _ q
  have hbt := hb s1 us I1.kIn (by rw [List.append_nil, ← hl]; exact r.length.symm)
  rw [List.append_nil] at hbt
  refine wpAny_call (codeAny_mono (F.run X.A X.stack s1 (tupsOf H1) ⟨us, []⟩ us vs out hr (env0_tups I1.env0) (fun b o e => (tupsOf_some e).2) hbt r q) fun y s' hq => ?_)
  obtain ⟨a, g, c, go, rfl, G⟩ := hq
  exact ⟨H1, tupsOf H1, s1, out, a, g, c, go, rfl, I1, fun b o e => (tupsOf_some e).1, G, hcont⟩
end
end Own

/-! Prg1: programs as sequences; their texts; what is left of a text while it is read -/
namespace Prg
open Cnd
/-- a program without brackets: fill has its text as read and as templates write it -/
inductive Lf where
  | skip
  | fill (a x : List Nat)
  | fail (n : List Nat)
  | call (n : List Nat)
/-- a sequence of programs: one that stands alone, or a block -/
inductive Pr where
  | nil
  | leaf (l : Lf) (r : Pr)
  | whil (c : Cd) (p : Pr) (r : Pr)
  | cond (c : Cd) (p q : Pr) (r : Pr)
abbrev skipT : List Nat := [115, 107, 105, 112]
abbrev fillT : List Nat := [102, 105, 108, 108, 32]
abbrev failT : List Nat := [102, 97, 105, 108, 32]
abbrev callT : List Nat := [99, 97, 108, 108, 32]
abbrev whilT : List Nat := [119, 104, 105, 108, 101, 32]
abbrev ifT : List Nat := [105, 102, 32]
def lTx : Lf → List Nat
  | .skip => skipT
  | .fill a _ => fillT ++ a
  | .fail n => failT ++ n
  | .call n => callT ++ n
def some? : Pr → Bool
  | .nil => false
  | _ => true
/-- what stands between a program and the rest of its sequence -/
def semi (r : Pr) (t : List Nat) : List Nat := if some? r then 59 :: 32 :: t else []
def pTx : Pr → List Nat
  | .nil => []
  | .leaf l r => lTx l ++ semi r (pTx r)
  | .whil c p r => whilT ++ (cTx c ++ (32 :: 91 :: (pTx p ++ (93 :: semi r (pTx r)))))
  | .cond c p q r => ifT ++ (cTx c ++ (32 :: 91 :: (pTx p ++ (93 :: 32 :: 91 :: (pTx q ++ (93 :: semi r (pTx r)))))))
/-- a bracket that is open: what comes behind it -/
inductive Op where
  | whil (c : Cd) (r : Pr)
  | fst (c : Cd) (q r : Pr)
  | snd (c : Cd) (p r : Pr)
/-- what still comes behind the program that is read: the rest of its sequence, then the brackets, the innermost first -/
def rest : Pr → List Op → List Nat
  | r, [] => semi r (pTx r)
  | r, .whil _ r2 :: fs => semi r (pTx r) ++ (93 :: rest r2 fs)
  | r, .fst c q r2 :: fs => semi r (pTx r) ++ (93 :: 32 :: 91 :: (pTx q ++ (93 :: rest r2 fs)))
  | r, .snd _ _ r2 :: fs => semi r (pTx r) ++ (93 :: rest r2 fs)
/-- how much is left to read -/
def size : Pr → Nat
  | .nil => 0
  | .leaf _ r => size r + 1
  | .whil _ p r => size p + size r + 1
  | .cond _ p q r => size p + size q + size r + 1
end Prg

namespace Own
open PySem PySem.Spec PyProof.Rows L2 SX
/-! ### the first place at which two texts differ -/
def cpl : List Nat → List Nat → Nat
  | c :: a, d :: b => if c = d then cpl a b + 1 else 0
  | _, _ => 0
theorem cpl_le : ∀ a b : List Nat, cpl a b ≤ a.length ∧ cpl a b ≤ b.length
  | [], b => ⟨Nat.zero_le _, Nat.zero_le _⟩
  | c :: a, [] => ⟨Nat.zero_le _, Nat.zero_le _⟩
  | c :: a, d :: b => by
    have := cpl_le a b
    unfold cpl
    by_cases h : c = d
    · rw [if_pos h, List.length_cons, List.length_cons]
      omega
    · rw [if_neg h]
      exact ⟨Nat.zero_le _, Nat.zero_le _⟩
theorem cpl_take : ∀ {a b : List Nat} {m : Nat}, m ≤ cpl a b → a.take m = b.take m
  | _, _, 0, _ => by rw [List.take_zero, List.take_zero]
  | [], b, m + 1, h => absurd h (Nat.not_succ_le_zero _)
  | c :: a, [], m + 1, h => absurd h (Nat.not_succ_le_zero _)
  | c :: a, d :: b, m + 1, h => by
    unfold cpl at h
    by_cases e : c = d
    · rw [if_pos e] at h
      rw [List.take_succ_cons, List.take_succ_cons, e, cpl_take (a := a) (b := b) (by omega)]
    · rw [if_neg e] at h
      exact absurd h (Nat.not_succ_le_zero _)
theorem cpl_max : ∀ {a b : List Nat} {m : Nat}, m ≤ a.length → m ≤ b.length → a.take m = b.take m → m ≤ cpl a b
  | _, _, 0, _, _, _ => Nat.zero_le _
  | [], b, m + 1, h, _, _ => absurd h (Nat.not_succ_le_zero _)
  | c :: a, [], m + 1, _, h, _ => absurd h (Nat.not_succ_le_zero _)
  | c :: a, d :: b, m + 1, h1, h2, h => by
    rw [List.take_succ_cons, List.take_succ_cons] at h
    have h' := List.cons.inj h
    rw [List.length_cons] at h1 h2
    unfold cpl
    rw [if_pos h'.1]
    have := cpl_max (by omega) (by omega) h'.2
    omega
/-- the pieces between k and m are the same: the texts are the same up to m -/
theorem cpl_mid {a b : List Nat} {k m : Nat} (hk : k ≤ cpl a b) (km : k ≤ m) (h1 : m ≤ a.length) (h2 : m ≤ b.length) : (a.take m).drop k = (b.take m).drop k ↔ m ≤ cpl a b := by
  refine ⟨fun h => cpl_max h1 h2 ?_, fun h => by rw [cpl_take h]⟩
  rw [← List.take_append_drop k (a.take m), ← List.take_append_drop k (b.take m), h, List.take_take, List.take_take, show min k m = k by omega, cpl_take hk]
theorem cpl_ne : ∀ {a b : List Nat}, a ≠ b → a[cpl a b]? ≠ b[cpl a b]?
  | [], [], h => absurd rfl h
  | [], d :: b, _ => fun e => by cases e
  | c :: a, [], _ => fun e => by cases e
  | c :: a, d :: b, h => by
    unfold cpl
    by_cases e : c = d
    · rw [if_pos e, List.getElem?_cons_succ, List.getElem?_cons_succ]
      exact cpl_ne fun z => h (by rw [e, z])
    · rw [if_neg e]
      exact fun z => e (Option.some.inj z)
theorem cpl_one {a b : List Nat} {i : Nat} (h : i < cpl a b) : a[i]? = b[i]? := by
  have := congrArg (·[i]?) (cpl_take (m := i + 1) h)
  simp only [List.getElem?_take] at this
  rw [if_pos (Nat.lt_succ_self i), if_pos (Nat.lt_succ_self i)] at this
  exact this
/-- the letter at a place, or None -/
def ltV (a : List Nat) (i : Nat) : V := match a[i]? with
  | some c => tx [c]
  | none => .non
/-- the tuple of a difference -/
def dfV (a b : List Nat) : List V := [.int (cpl a b : Nat), ltV a (cpl a b), ltV b (cpl a b)]
/-- the word of a comparison -/
def cmpW (gs a b : List Nat) : Str :=
  if a = b then Str.ofString "equal" else match a[cpl a b]?, b[cpl a b]? with
  | none, _ => Str.ofString "shorter"
  | some _, none => Str.ofString "longer"
  | some c, some d => if gs.idxOf c < gs.idxOf d then Str.ofString "less" else Str.ofString "greater"
/-! ### promises -/
def spLAt : Sp := fun vs H Q _ => ∃ (a : List Nat) (i : Nat), vs = [tx a, .int (i : Int)] ∧ a.length ≤ 1000 ∧ Q (ltV a i) H
def spCSz : Sp := fun vs H Q _ => ∃ a b : List Nat, vs = [tx a, tx b] ∧ a.length ≤ 1000 ∧ b.length ≤ 1000 ∧ Q (.int (cpl a b : Nat)) H
def spFD : Sp := fun vs H Q _ => ∃ a b : List Nat, vs = [tx a, tx b] ∧ a.length ≤ 1000 ∧ b.length ≤ 1000 ∧ (a = b → Q .non H) ∧ (a ≠ b → ∀ H' p, Same H H' → H p = none → H' p = some (.tup (dfV a b)) → Q (.ref p) H')
def spLW : Sp := fun vs H Q _ => ∃ (gs : List Nat) (c d : Nat), vs = [tx gs, tx [c], tx [d]] ∧ c ∈ gs ∧ d ∈ gs ∧ Q (.str (if gs.idxOf c < gs.idxOf d then Str.ofString "less" else Str.ofString "greater")) H
def spTW : Sp := fun vs H Q _ => ∃ gs a b : List Nat, vs = [tx gs, tx a, tx b] ∧ a.length ≤ 1000 ∧ b.length ≤ 1000 ∧ (∀ c ∈ a, c ∈ gs) ∧ (∀ c ∈ b, c ∈ gs) ∧ ∀ H', Same H H' → Q (.str (cmpW gs a b)) H'
theorem pe_nv {X : Cx} {e : Expr} : PE X e (fun _ _ _ => False) := ⟨fun _ _ _ _ _ _ h => h.elim⟩
/-- two templates as they lie -/
structure TwoT (C : Addr) (H : Hp) (p1 p2 : Addr) (gs hs : List Nat) (i1 i2 : List (List Nat)) : Prop where
  t1 : Tm C H p1 gs i1
  t2 : Tm C H p2 hs i2
  g1 : Good gs
  g2 : Good hs
  r1 : Row gs i1
  r2 : Row hs i2
  l1 : i1.length ≤ 100
  l2 : i2.length ≤ 100
theorem TwoT.same {C : Addr} {H H' : Hp} {p1 p2 : Addr} {gs hs : List Nat} {i1 i2 : List (List Nat)} (t : TwoT C H p1 p2 gs hs i1 i2) (s : Same H H') : TwoT C H' p1 p2 gs hs i1 i2 :=
  ⟨t.t1.same s, t.t2.same s, t.g1, t.g2, t.r1, t.r2, t.l1, t.l2⟩
def spCm (C : Addr) : Sp := fun vs H Q _ => ∃ (p1 p2 : Addr) (gs xs : List Nat) (i1 i2 : List (List Nat)), vs = [.ref p1, .ref p2, tx xs] ∧ TwoT C H p1 p2 gs gs i1 i2 ∧ xs.length ≤ 1000 ∧ (∀ c ∈ xs, c ∈ gs) ∧ (fillL gs i1 xs).length ≤ 1000 ∧ (fillL gs i2 xs).length ≤ 1000 ∧
  ∀ H', Same H H' → Q (.str (cmpW gs (fillL gs i1 xs) (fillL gs i2 xs))) H'
/-- the sign at a place as a text, or the empty text -/
def sgL (a : List Nat) (i : Nat) : List Nat := (a.take (i + 1)).drop i
theorem sgL_some {a : List Nat} {i c : Nat} (h : a[i]? = some c) : sgL a i = [c] := by
  unfold sgL
  have hi := (List.getElem?_eq_some_iff.mp h).1
  rw [List.take_add_one, h, List.drop_append, List.drop_eq_nil_of_le (by rw [List.length_take]; omega), List.length_take, show i - min i a.length = 0 by omega]
  rfl
theorem sgL_none {a : List Nat} {i : Nat} (h : a[i]? = none) : sgL a i = [] := by
  unfold sgL
  have hi := List.getElem?_eq_none_iff.mp h
  exact List.drop_eq_nil_of_le (by rw [List.length_take]; omega)
def spLOr : Sp := fun vs H Q _ => ∃ (z : V) (a b : List Nat), vs = [z, tx a, tx b] ∧ a.length ≤ 1000 ∧ b.length ≤ 1000 ∧ (a = b → Q .non H) ∧ (a ≠ b → ∀ H' p, Same H H' → H p = none → H' p = some (.tup (dfV a b)) → Q (.ref p) H')
end Own

/-! Pt1: patterns as they are read: a sequence of atoms and bars; their texts; what they tell between two places of a text -/
namespace Pt
open Cnd
inductive X where
  | nil
  | bar (r : X)
  | sym (s : Nat) (st : Bool) (r : X)
  | grp (g : X) (st : Bool) (r : X)
abbrev stT (st : Bool) : List Nat := if st then [42] else []
/-- the text -/
def tx : X → List Nat
  | .nil => []
  | .bar r => 124 :: tx r
  | .sym s st r => s :: (stT st ++ tx r)
  | .grp g st r => 40 :: (tx g ++ (41 :: (stT st ++ tx r)))
def app : X → X → X
  | .nil, y => y
  | .bar r, y => .bar (app r y)
  | .sym s st r, y => .sym s st (app r y)
  | .grp g st r, y => .grp g st (app r y)
def Ok (gs : List Nat) : X → Prop
  | .nil => True
  | .bar r => Ok gs r
  | .sym s _ r => (s ∈ gs ∨ s = 46) ∧ Ok gs r
  | .grp g _ r => Ok gs g ∧ Ok gs r
theorem Ok.app {gs : List Nat} : ∀ {x y : X}, Ok gs x → Ok gs y → Ok gs (app x y)
  | .nil, _, _, h => h
  | .bar r, _, h, k => Ok.app (x := r) h k
  | .sym _ _ r, _, ⟨a, h⟩, k => ⟨a, Ok.app (x := r) h k⟩
  | .grp _ _ r, _, ⟨a, h⟩, k => ⟨a, Ok.app (x := r) h k⟩
/-- how many signs read -/
def reads : X → Nat
  | .nil => 0
  | .bar r => reads r
  | .sym _ _ r => reads r + 1
  | .grp g _ r => reads g + reads r
/-! ### what is told between two places -/
abbrev Rel := Nat → Nat → Prop
def idR : Rel := fun i j => i = j
def thenR (P Q : Rel) : Rel := fun i j => ∃ k, P i k ∧ Q k j
inductive starR (P : Rel) : Rel
  | refl (i : Nat) : starR P i i
  | step {i k j : Nat} : starR P i k → P k j → starR P i j
def stR (st : Bool) (P : Rel) : Rel := if st then starR P else P
/-- a sign at a place of w: a point stands for each letter -/
def symR (w : List Nat) (s : Nat) : Rel := fun i j => j = i + 1 ∧ ∃ c, w[i]? = some c ∧ (s = c ∨ s = 46)
/-- P: what the row has told so far -/
def den (w : List Nat) : X → Rel → Rel
  | .nil, P => P
  | .bar r, P => fun i j => P i j ∨ den w r idR i j
  | .sym s st r, P => den w r (thenR P (stR st (symR w s)))
  | .grp g st r, P => den w r (thenR P (stR st (den w g idR)))
/-- the text w is one of the pattern's -/
def Told (w : List Nat) (x : X) : Prop := den w x idR 0 w.length
end Pt

/-! Pt2: sets of places; the net of a pattern -/
namespace Pt
abbrev Pl := Nat → Prop
def img (S : Pl) (R : Rel) : Pl := fun j => ∃ i, S i ∧ R i j
def denS (w : List Nat) : X → Pl → Pl → Pl
  | .nil, _, P => P
  | .bar r, S, P => fun j => P j ∨ denS w r S S j
  | .sym s st r, S, P => denS w r S (img P (stR st (symR w s)))
  | .grp g st r, S, P => denS w r S (img P (stR st (den w g idR)))
theorem img_id (S : Pl) : img S idR = S := by
  funext j
  exact propext ⟨fun ⟨i, h, e⟩ => by cases e; exact h, fun h => ⟨j, h, rfl⟩⟩
theorem img_then (S : Pl) (P Q : Rel) : img S (thenR P Q) = img (img S P) Q := by
  funext j
  exact propext ⟨fun ⟨i, h, k, a, b⟩ => ⟨k, ⟨i, h, a⟩, b⟩, fun ⟨k, ⟨i, h, a⟩, b⟩ => ⟨i, h, k, a, b⟩⟩
/-- sets of places tell what relations tell -/
theorem img_den (w : List Nat) : ∀ (x : X) (S : Pl) (P : Rel), denS w x S (img S P) = img S (den w x P)
  | .nil, S, P => rfl
  | .bar r, S, P => by
    funext j
    have e := img_den w r S idR
    rw [img_id] at e
    show (img S P j ∨ denS w r S S j) = ∃ i, S i ∧ (P i j ∨ den w r idR i j)
    rw [e]
    exact propext ⟨fun h => h.elim (fun ⟨i, a, b⟩ => ⟨i, a, .inl b⟩) (fun ⟨i, a, b⟩ => ⟨i, a, .inr b⟩), fun ⟨i, a, b⟩ => b.elim (fun b => .inl ⟨i, a, b⟩) (fun b => .inr ⟨i, a, b⟩)⟩
  | .sym s st r, S, P => by
    show denS w r S (img (img S P) _) = img S (den w r (thenR P _))
    rw [← img_then, img_den w r S]
  | .grp g st r, S, P => by
    show denS w r S (img (img S P) _) = img S (den w r (thenR P _))
    rw [← img_then, img_den w r S]
theorem den_img (w : List Nat) (x : X) (S : Pl) : denS w x S S = img S (den w x idR) := by
  have := img_den w x S idR
  rwa [img_id] at this
/-- the closure of a star holds the set and is closed -/
theorem star_in {S : Pl} {R : Rel} {j : Nat} (h : S j) : img S (starR R) j := ⟨j, h, .refl j⟩
theorem star_step {S : Pl} {R : Rel} {k j : Nat} (h : img S (starR R) k) (r : R k j) : img S (starR R) j := by
  obtain ⟨i, a, b⟩ := h
  exact ⟨i, a, .step b r⟩
/-! ### the net -/
structure Net where
  reads : List (List Nat)
  jumps : List (List Nat)
def Net.piece (N : Net) (r : List Nat) : Net := ⟨N.reads ++ [r, []], N.jumps ++ [[], []]⟩
def Net.link (N : Net) (a b : Nat) : Net := ⟨N.reads, N.jumps.modify a (· ++ [b])⟩
/-- the letters for which a sign stands -/
def rl (gs : List Nat) (s : Nat) : List Nat := if s = 46 then gs else if s ∈ gs then [s] else []
def Net.star (N : Net) (st : Bool) (a : Nat) : Net := if st then (N.link a (a + 1)).link (a + 1) a else N
/-- the net of what follows now inside of the group (s, e), and where one is behind it -/
def build (gs : List Nat) : X → Net → Nat → Nat → Nat → Net × Nat
  | .nil, N, _, _, now => (N, now)
  | .bar r, N, s, e, now => build gs r (N.link now e) s e s
  | .sym c st r, N, s, e, now =>
    let a := N.reads.length
    build gs r (((N.piece (rl gs c)).link now a).star st a) s e (a + 1)
  | .grp g st r, N, s, e, now =>
    let a := N.reads.length
    let B := build gs g ((N.piece []).link now a) a (a + 1) a
    build gs r ((B.1.link B.2 (a + 1)).star st a) s e (a + 1)
/-- the whole net: 0 is the first node, 1 the last -/
def netOf (gs : List Nat) (x : X) : Net :=
  let B := build gs x ((⟨[], []⟩ : Net).piece []) 0 1 0
  B.1.link B.2 1
end Pt

/-! Pt3: what a net reads; all told places are reached -/
namespace Pt
def Jp (N : Net) (a b : Nat) : Prop := ∃ l, N.jumps[a]? = some l ∧ b ∈ l
inductive At (N : Net) (w : List Nat) : Nat → Nat → Prop
  | start : At N w 0 0
  | jump {n m i : Nat} : At N w n i → Jp N n m → At N w m i
  | read {n i c : Nat} {l : List Nat} : At N w n i → N.reads[n]? = some l → w[i]? = some c → c ∈ l → At N w (n + 1) (i + 1)
/-- F has all that N has -/
structure Ext (N F : Net) : Prop where
  rd : ∀ (n : Nat) (l : List Nat), N.reads[n]? = some l → F.reads[n]? = some l
  jp : ∀ a b, Jp N a b → Jp F a b
theorem Ext.refl (N : Net) : Ext N N := ⟨fun _ _ h => h, fun _ _ h => h⟩
theorem Ext.trans {A B C : Net} (h : Ext A B) (k : Ext B C) : Ext A C := ⟨fun n l e => k.rd n l (h.rd n l e), fun a b e => k.jp a b (h.jp a b e)⟩
/-- as many lists of jumps as of signs -/
def Wf (N : Net) : Prop := N.jumps.length = N.reads.length
theorem sub_link (N : Net) (a b : Nat) : Ext N (N.link a b) := by
  refine ⟨fun _ _ h => h, fun c d ⟨l, h, m⟩ => ?_⟩
  by_cases e : a = c
  · subst e
    refine ⟨l ++ [b], ?_, List.mem_append_left _ m⟩
    show (N.jumps.modify a (· ++ [b]))[a]? = _
    rw [List.getElem?_modify, h]
    simp
  · refine ⟨l, ?_, m⟩
    show (N.jumps.modify a (· ++ [b]))[c]? = _
    rw [List.getElem?_modify, h]
    simp [e]
theorem jp_link {N : Net} {a b : Nat} (h : a < N.jumps.length) : Jp (N.link a b) a b := by
  refine ⟨N.jumps[a] ++ [b], ?_, List.mem_append_right _ (List.mem_singleton.mpr rfl)⟩
  show (N.jumps.modify a (· ++ [b]))[a]? = _
  rw [List.getElem?_modify, List.getElem?_eq_getElem h]
  simp
theorem wf_link {N : Net} {a b : Nat} (h : Wf N) : Wf (N.link a b) ∧ (N.link a b).reads.length = N.reads.length := by
  refine ⟨?_, rfl⟩
  show (N.jumps.modify a (· ++ [b])).length = N.reads.length
  rw [List.length_modify]
  exact h
theorem sub_piece (N : Net) (r : List Nat) : Ext N (N.piece r) := by
  refine ⟨fun n l h => ?_, fun a b ⟨l, h, m⟩ => ⟨l, ?_, m⟩⟩
  · show (N.reads ++ _)[n]? = _
    rw [List.getElem?_append_left (List.getElem?_eq_some_iff.mp h).1]
    exact h
  · show (N.jumps ++ _)[a]? = _
    rw [List.getElem?_append_left (List.getElem?_eq_some_iff.mp h).1]
    exact h
theorem wf_piece {N : Net} {r : List Nat} (h : Wf N) : Wf (N.piece r) ∧ (N.piece r).reads.length = N.reads.length + 2 := by
  refine ⟨?_, by show (N.reads ++ [r, []]).length = _; rw [List.length_append]; rfl⟩
  show (N.jumps ++ [[], []]).length = (N.reads ++ [r, []]).length
  rw [List.length_append, List.length_append, h]
  rfl
theorem sub_star (N : Net) (st : Bool) (a : Nat) : Ext N (N.star st a) := by
  cases st
  · exact Ext.refl N
  · exact (sub_link N a (a + 1)).trans (sub_link _ (a + 1) a)
theorem wf_star {N : Net} {st : Bool} {a : Nat} (h : Wf N) : Wf (N.star st a) ∧ (N.star st a).reads.length = N.reads.length := by
  cases st
  · exact ⟨h, rfl⟩
  · exact ⟨(wf_link (wf_link h).1).1, rfl⟩
/-- what building adds -/
theorem build_ok (gs : List Nat) : ∀ (x : X) (N : Net) (s e now : Nat), Wf N → s < N.reads.length → e < N.reads.length → now < N.reads.length →
    Ext N (build gs x N s e now).1 ∧ Wf (build gs x N s e now).1 ∧ N.reads.length ≤ (build gs x N s e now).1.reads.length ∧ (build gs x N s e now).2 < (build gs x N s e now).1.reads.length
  | .nil, N, s, e, now, h, _, _, hn => ⟨Ext.refl N, h, Nat.le_refl _, hn⟩
  | .bar r, N, s, e, now, h, hs, he, hn => by
    obtain ⟨a, b, c, d⟩ := build_ok gs r (N.link now e) s e s (wf_link h).1 hs he hs
    exact ⟨(sub_link N now e).trans a, b, c, d⟩
  | .sym c st r, N, s, e, now, h, hs, he, hn => by
    have w1 := wf_piece (r := rl gs c) h
    have w2 := wf_link (a := now) (b := N.reads.length) w1.1
    have w3 := wf_star (st := st) (a := N.reads.length) w2.1
    obtain ⟨a, b, d, f⟩ := build_ok gs r _ s e (N.reads.length + 1) w3.1 (by omega) (by omega) (by omega)
    exact ⟨(((sub_piece N _).trans (sub_link _ _ _)).trans (sub_star _ _ _)).trans a, b, Nat.le_trans (by omega) d, f⟩
  | .grp g st r, N, s, e, now, h, hs, he, hn => by
    have w1 := wf_piece (r := []) h
    have w2 := wf_link (a := now) (b := N.reads.length) w1.1
    obtain ⟨a, b, d, f⟩ := build_ok gs g _ N.reads.length (N.reads.length + 1) N.reads.length w2.1 (by omega) (by omega) (by omega)
    have w3 := wf_link (a := (build gs g ((N.piece []).link now N.reads.length) N.reads.length (N.reads.length + 1) N.reads.length).2) (b := N.reads.length + 1) b
    have w4 := wf_star (st := st) (a := N.reads.length) w3.1
    obtain ⟨a2, b2, d2, f2⟩ := build_ok gs r _ s e (N.reads.length + 1) w4.1 (by omega) (by omega) (by omega)
    exact ⟨((((sub_piece N _).trans (sub_link _ _ _)).trans a).trans ((sub_link _ _ _).trans (sub_star _ _ _))).trans a2, b2, Nat.le_trans (by omega) d2, f2⟩
end Pt

/-! Pt4: all told places are reached -/
namespace Pt
theorem reads_piece (N : Net) (r : List Nat) : (N.piece r).reads[N.reads.length]? = some r := by
  show (N.reads ++ [r, []])[N.reads.length]? = _
  rw [List.getElem?_append_right (Nat.le_refl _), Nat.sub_self]
  rfl
theorem rl_has {gs : List Nat} {s c : Nat} (hc : c ∈ gs) (h : s = c ∨ s = 46) : c ∈ rl gs s := by
  unfold rl
  by_cases e : s = 46
  · rw [if_pos e]; exact hc
  · rw [if_neg e]
    rcases h with h | h
    · subst h
      rw [if_pos hc]
      exact List.mem_singleton.mpr rfl
    · exact absurd h e
/-- through a piece, starred or not -/
theorem piece_comp {F : Net} {w : List Nat} {a : Nat} {st : Bool} {R : Rel} {P : Pl} (hP : ∀ j, P j → At F w a j)
    (hR : ∀ i j, At F w a i → R i j → At F w (a + 1) j) (h1 : st = true → Jp F a (a + 1)) (h2 : st = true → Jp F (a + 1) a) :
    ∀ j, img P (stR st R) j → At F w (a + 1) j := by
  intro j ⟨i, hi, r⟩
  cases st with
  | false => exact hR i j (hP i hi) r
  | true =>
    have key : ∀ i j, starR R i j → P i → At F w (a + 1) j := by
      intro i j r
      induction r with
      | refl => exact fun hi => (hP _ hi).jump (h1 rfl)
      | step _ q ih => exact fun hi => hR _ _ ((ih hi).jump (h2 rfl)) q
    exact key i j r hi
theorem star_jp {N F : Net} {a : Nat} (h : Ext (N.star true a) F) (ha : a + 1 < N.jumps.length) : Jp F a (a + 1) ∧ Jp F (a + 1) a := by
  refine ⟨h.jp _ _ ((sub_link _ (a + 1) a).jp _ _ (jp_link (by omega))), h.jp _ _ (jp_link ?_)⟩
  show a + 1 < (N.jumps.modify a _).length
  rw [List.length_modify]
  exact ha
theorem build_comp {gs w : List Nat} (hw : ∀ c ∈ w, c ∈ gs) (F : Net) : ∀ (x : X) (N : Net) (s e now : Nat) (S P : Pl), Wf N → s < N.reads.length → e < N.reads.length → now < N.reads.length →
    Ext ((build gs x N s e now).1.link (build gs x N s e now).2 e) F → (∀ j, S j → At F w s j) → (∀ j, P j → At F w now j) → ∀ j, denS w x S P j → At F w e j
  | .nil, N, s, e, now, S, P, h, hs, he, hn, hF, hS, hP, j, d => (hP j d).jump (hF.jp _ _ (jp_link (by show now < N.jumps.length; rw [h]; exact hn)))
  | .bar r, N, s, e, now, S, P, h, hs, he, hn, hF, hS, hP, j, d => by
    have w1 := wf_link (a := now) (b := e) h
    have b := build_ok gs r (N.link now e) s e s w1.1 hs he hs
    have hF2 : Ext (N.link now e) F := (b.1.trans (sub_link _ _ _)).trans hF
    rcases (show P j ∨ denS w r S S j from d) with d | d
    · exact (hP j d).jump (hF2.jp _ _ (jp_link (by rw [h]; exact hn)))
    · exact build_comp hw F r (N.link now e) s e s S S w1.1 hs he hs hF hS hS j d
  | .sym c st r, N, s, e, now, S, P, h, hs, he, hn, hF, hS, hP, j, d => by
    have w1 := wf_piece (r := rl gs c) h
    have w2 := wf_link (a := now) (b := N.reads.length) w1.1
    have w3 := wf_star (st := st) (a := N.reads.length) w2.1
    have b := build_ok gs r _ s e (N.reads.length + 1) w3.1 (by omega) (by omega) (by omega)
    have hF3 : Ext (((N.piece (rl gs c)).link now N.reads.length).star st N.reads.length) F := (b.1.trans (sub_link _ _ _)).trans hF
    have hF2 : Ext ((N.piece (rl gs c)).link now N.reads.length) F := (sub_star _ _ _).trans hF3
    have hrd := hF2.rd _ _ ((sub_link _ _ _).rd _ _ (reads_piece N (rl gs c)))
    have hj : Jp F now N.reads.length := hF2.jp _ _ (jp_link (by rw [w1.1]; omega))
    have l2 : ((N.piece (rl gs c)).link now N.reads.length).jumps.length = N.reads.length + 2 := by rw [w2.1]; omega
    refine build_comp hw F r _ s e (N.reads.length + 1) S _ w3.1 (by omega) (by omega) (by omega) hF hS ?_ j d
    refine piece_comp (fun j p => (hP j p).jump hj) (fun i j p q => ?_) (fun z => ?_) (fun z => ?_)
    · obtain ⟨rfl, k, hk, hs⟩ := q
      exact p.read hrd hk (rl_has (hw k (List.mem_of_getElem? hk)) hs)
    · subst z; exact (star_jp hF3 (by omega)).1
    · subst z; exact (star_jp hF3 (by omega)).2
  | .grp g st r, N, s, e, now, S, P, h, hs, he, hn, hF, hS, hP, j, d => by
    have w1 := wf_piece (r := []) h
    have w2 := wf_link (a := now) (b := N.reads.length) w1.1
    have b := build_ok gs g _ N.reads.length (N.reads.length + 1) N.reads.length w2.1 (by omega) (by omega) (by omega)
    have w3 := wf_link (a := (build gs g ((N.piece []).link now N.reads.length) N.reads.length (N.reads.length + 1) N.reads.length).2) (b := N.reads.length + 1) b.2.1
    have w4 := wf_star (st := st) (a := N.reads.length) w3.1
    have b2 := build_ok gs r _ s e (N.reads.length + 1) w4.1 (by omega) (by omega) (by omega)
    have hF4 := (b2.1.trans (sub_link _ _ _)).trans hF
    have hF3 := (sub_star _ st N.reads.length).trans hF4
    have hF2 := b.1.trans ((sub_link _ _ _).trans hF3)
    have hj : Jp F now N.reads.length := hF2.jp _ _ (jp_link (by rw [w1.1]; omega))
    refine build_comp hw F r _ s e (N.reads.length + 1) S _ w4.1 (by omega) (by omega) (by omega) hF hS ?_ j d
    refine piece_comp (fun j p => (hP j p).jump hj) (fun i j p q => ?_) (fun z => ?_) (fun z => ?_)
    · refine build_comp hw F g _ N.reads.length (N.reads.length + 1) N.reads.length (fun k => At F w N.reads.length k) (fun k => At F w N.reads.length k) w2.1 (by omega) (by omega) (by omega) hF3 (fun _ z => z) (fun _ z => z) j ?_
      rw [den_img]
      exact ⟨i, p, q⟩
    · subst z; exact (star_jp hF4 (by rw [w3.1]; omega)).1
    · subst z; exact (star_jp hF4 (by rw [w3.1]; omega)).2
/-- what the pattern tells, the net reads -/
theorem net_comp {gs w : List Nat} (hw : ∀ c ∈ w, c ∈ gs) (x : X) (h : Told w x) : At (netOf gs x) w 1 w.length := by
  have w0 : Wf ((⟨[], []⟩ : Net).piece []) := rfl
  refine build_comp hw (netOf gs x) x _ 0 1 0 (fun j => j = 0) (fun j => j = 0) w0 (by decide) (by decide) (by decide) (Ext.refl _) (fun j e => by subst e; exact .start) (fun j e => by subst e; exact .start) _ ?_
  rw [den_img]
  exact ⟨0, rfl, h⟩
end Pt

/-! Pt5: what the net reads, the pattern tells -/
namespace Pt
/-- V keeps to the edges of N, all of which lie in N -/
structure Cl (N : Net) (w : List Nat) (V : Nat → Pl) : Prop where
  jp : ∀ a b, Jp N a b → ∀ j, V a j → V b j
  rd : ∀ (n : Nat) (l : List Nat) (i c : Nat), N.reads[n]? = some l → w[i]? = some c → c ∈ l → V n i → V (n + 1) (i + 1)
  jb : ∀ a b, Jp N a b → a < N.reads.length ∧ b < N.reads.length
  rb : ∀ (n : Nat) (l : List Nat) (c : Nat), N.reads[n]? = some l → c ∈ l → n + 1 < N.reads.length
theorem jp_of_link {N : Net} {a b c d : Nat} (h : Jp (N.link a b) c d) : Jp N c d ∨ (c = a ∧ d = b) := by
  obtain ⟨l, e, m⟩ := h
  have e : (N.jumps.modify a (· ++ [b]))[c]? = some l := e
  rw [List.getElem?_modify] at e
  cases f : N.jumps[c]? with
  | none => rw [f] at e; simp at e
  | some k =>
    rw [f] at e
    by_cases g : a = c
    · have e : k ++ [b] = l := by simpa [g] using e
      subst e
      rcases List.mem_append.mp m with m | m
      · exact .inl ⟨k, f, m⟩
      · exact .inr ⟨g.symm, List.mem_singleton.mp m⟩
    · have e : k = l := by simpa [g] using e
      subst e
      exact .inl ⟨k, f, m⟩
theorem cl_link {N : Net} {w : List Nat} {V : Nat → Pl} {a b : Nat} (h : Cl N w V) (ha : a < N.reads.length) (hb : b < N.reads.length) (hv : ∀ j, V a j → V b j) : Cl (N.link a b) w V := by
  refine ⟨fun c d e => ?_, h.rd, fun c d e => ?_, h.rb⟩
  · rcases jp_of_link e with e | ⟨rfl, rfl⟩
    · exact h.jp c d e
    · exact hv
  · rcases jp_of_link e with e | ⟨rfl, rfl⟩
    · exact h.jb c d e
    · exact ⟨ha, hb⟩
theorem cl_star {N : Net} {w : List Nat} {V : Nat → Pl} {a : Nat} {st : Bool} (h : Cl N w V) (ha : a + 1 < N.reads.length) (hv : st = true → ∀ j, V a j ↔ V (a + 1) j) : Cl (N.star st a) w V := by
  cases st
  · exact h
  · exact cl_link (cl_link h (by omega) ha fun j => (hv rfl j).mp) (by exact ha) (by show a < N.reads.length; omega) fun j => (hv rfl j).mpr
/-- with a new piece, and what it is told -/
theorem cl_piece {N : Net} {w : List Nat} {V : Nat → Pl} {r : List Nat} (hw : Wf N) (h : Cl N w V) (A B : Pl) (hr : ∀ i c, w[i]? = some c → c ∈ r → A i → B (i + 1)) :
    Cl (N.piece r) w (fun n => if n = N.reads.length then A else if n = N.reads.length + 1 then B else V n) := by
  have old : ∀ {n : Nat}, n < N.reads.length → (if n = N.reads.length then A else if n = N.reads.length + 1 then B else V n) = V n := fun h => by rw [if_neg (by omega), if_neg (by omega)]
  have jo : ∀ a b, Jp (N.piece r) a b → Jp N a b := by
    intro a b ⟨l, e, m⟩
    have e : (N.jumps ++ [[], []])[a]? = some l := e
    by_cases g : a < N.jumps.length
    · rw [List.getElem?_append_left g] at e
      exact ⟨l, e, m⟩
    · rw [List.getElem?_append_right (by omega)] at e
      have : l ∈ [[], []] := List.mem_of_getElem? e
      simp only [List.mem_cons, List.not_mem_nil, or_false] at this
      rcases this with rfl | rfl <;> cases m
  have ro : ∀ (n : Nat) (l : List Nat) (c : Nat), (N.piece r).reads[n]? = some l → c ∈ l → (N.reads[n]? = some l) ∨ (n = N.reads.length ∧ l = r) := by
    intro n l c e m
    have e : (N.reads ++ [r, []])[n]? = some l := e
    by_cases g : n < N.reads.length
    · rw [List.getElem?_append_left g] at e
      exact .inl e
    · rw [List.getElem?_append_right (by omega)] at e
      match k : n - N.reads.length with
      | 0 => rw [k] at e; cases e; exact .inr ⟨by omega, rfl⟩
      | 1 => rw [k] at e; cases e; cases m
      | _ + 2 => rw [k] at e; cases e
  have hl : (N.piece r).reads.length = N.reads.length + 2 := (wf_piece hw).2
  refine ⟨fun a b e j => ?_, fun n l i c e hi m => ?_, fun a b e => ?_, fun n l c e m => ?_⟩
  · have b2 := h.jb a b (jo a b e)
    rw [old b2.1, old b2.2]
    exact h.jp a b (jo a b e) j
  · rcases ro n l c e m with e | ⟨rfl, rfl⟩
    · have b2 := h.rb n l c e m
      rw [old (show n < N.reads.length by omega), old b2]
      exact h.rd n l i c e hi m
    · rw [if_pos rfl, if_neg (by omega), if_pos rfl]
      exact hr i c hi m
  · have b2 := h.jb a b (jo a b e)
    omega
  · rcases ro n l c e m with e | ⟨rfl, rfl⟩
    · have b2 := h.rb n l c e m
      omega
    · omega
theorem rl_of {gs : List Nat} {s c : Nat} (h : c ∈ rl gs s) : s = c ∨ s = 46 := by
  unfold rl at h
  by_cases e : s = 46
  · exact .inr e
  · rw [if_neg e] at h
    by_cases f : s ∈ gs
    · rw [if_pos f] at h
      exact .inl (List.mem_singleton.mp h).symm
    · rw [if_neg f] at h
      cases h
end Pt

/-! Pt6: what the net reads, the pattern tells -/
namespace Pt
theorem build_sound {gs w : List Nat} : ∀ (x : X) (N : Net) (s e now : Nat) (V : Nat → Pl), Wf N → Cl N w V → s < N.reads.length → e < N.reads.length → now < N.reads.length →
    (∀ j, denS w x (V s) (V now) j → V e j) → ∃ V' : Nat → Pl, Cl (build gs x N s e now).1 w V' ∧ (∀ n, n < N.reads.length → V' n = V n) ∧ ∀ j, V' (build gs x N s e now).2 j → V' e j
  | .nil, N, s, e, now, V, h, hc, hs, he, hn, hd => ⟨V, hc, fun _ _ => rfl, hd⟩
  | .bar r, N, s, e, now, V, h, hc, hs, he, hn, hd => by
    have w1 := wf_link (a := now) (b := e) h
    exact build_sound r (N.link now e) s e s V w1.1 (cl_link hc hn he fun j p => hd j (.inl p)) hs he hs fun j p => hd j (.inr p)
  | .sym c st r, N, s, e, now, V, h, hc, hs, he, hn, hd => by
    have w1 := wf_piece (r := rl gs c) h
    have w2 := wf_link (a := now) (b := N.reads.length) w1.1
    have w3 := wf_star (st := st) (a := N.reads.length) w2.1
    obtain ⟨B, hB⟩ : ∃ B, B = img (V now) (stR st (symR w c)) := ⟨_, rfl⟩
    obtain ⟨A, hA⟩ : ∃ A : Pl, A = if st then B else V now := ⟨_, rfl⟩
    have hAB : ∀ i j, A i → symR w c i j → B j := by
      intro i j a q
      subst hA hB
      cases st
      · exact ⟨i, a, q⟩
      · exact star_step a q
    have hPA : ∀ j, V now j → A j := by
      intro j p
      subst hA hB
      cases st
      · exact p
      · exact star_in p
    have c1 := cl_piece (r := rl gs c) h hc A B fun i k hk hm a => hAB i (i + 1) a ⟨rfl, k, hk, rl_of hm⟩
    obtain ⟨V1, hV1⟩ : ∃ V1 : Nat → Pl, V1 = fun n => if n = N.reads.length then A else if n = N.reads.length + 1 then B else V n := ⟨_, rfl⟩
    rw [← hV1] at c1
    have o1 : ∀ n, n < N.reads.length → V1 n = V n := fun n z => by rw [hV1]; show (if _ then _ else _) = _; rw [if_neg (by omega), if_neg (by omega)]
    have oa : V1 N.reads.length = A := by rw [hV1]; show (if _ then _ else _) = _; rw [if_pos rfl]
    have ob : V1 (N.reads.length + 1) = B := by rw [hV1]; show (if _ then _ else _) = _; rw [if_neg (by omega), if_pos rfl]
    have c2 := cl_link (a := now) (b := N.reads.length) c1 (by omega) (by omega) (by rw [o1 now hn, oa]; exact hPA)
    have c3 := cl_star (a := N.reads.length) (st := st) c2 (by omega) fun z j => by rw [oa, ob, hA, z]; exact Iff.rfl
    obtain ⟨V2, d1, d2, d3⟩ := build_sound r _ s e (N.reads.length + 1) V1 w3.1 c3 (by omega) (by omega) (by omega) (by rw [o1 s hs, ob, o1 e he, hB]; exact hd)
    exact ⟨V2, d1, fun n z => (d2 n (by omega)).trans (o1 n z), d3⟩
  | .grp g st r, N, s, e, now, V, h, hc, hs, he, hn, hd => by
    have w1 := wf_piece (r := []) h
    have w2 := wf_link (a := now) (b := N.reads.length) w1.1
    obtain ⟨B, hB⟩ : ∃ B, B = img (V now) (stR st (den w g idR)) := ⟨_, rfl⟩
    obtain ⟨A, hA⟩ : ∃ A : Pl, A = if st then B else V now := ⟨_, rfl⟩
    have hAB : ∀ i j, A i → den w g idR i j → B j := by
      intro i j a q
      subst hA hB
      cases st
      · exact ⟨i, a, q⟩
      · exact star_step a q
    have hPA : ∀ j, V now j → A j := by
      intro j p
      subst hA hB
      cases st
      · exact p
      · exact star_in p
    have c1 := cl_piece (r := []) h hc A B fun i k hk hm a => by cases hm
    obtain ⟨V1, hV1⟩ : ∃ V1 : Nat → Pl, V1 = fun n => if n = N.reads.length then A else if n = N.reads.length + 1 then B else V n := ⟨_, rfl⟩
    rw [← hV1] at c1
    have o1 : ∀ n, n < N.reads.length → V1 n = V n := fun n z => by rw [hV1]; show (if _ then _ else _) = _; rw [if_neg (by omega), if_neg (by omega)]
    have oa : V1 N.reads.length = A := by rw [hV1]; show (if _ then _ else _) = _; rw [if_pos rfl]
    have ob : V1 (N.reads.length + 1) = B := by rw [hV1]; show (if _ then _ else _) = _; rw [if_neg (by omega), if_pos rfl]
    have c2 := cl_link (a := now) (b := N.reads.length) c1 (by omega) (by omega) (by rw [o1 now hn, oa]; exact hPA)
    have b := build_ok gs g _ N.reads.length (N.reads.length + 1) N.reads.length w2.1 (by omega) (by omega) (by omega)
    obtain ⟨V2, d1, d2, d3⟩ := build_sound g _ N.reads.length (N.reads.length + 1) N.reads.length V1 w2.1 c2 (by omega) (by omega) (by omega) (by
      rw [oa, ob]
      intro j q
      rw [den_img] at q
      obtain ⟨i, a, q⟩ := q
      exact hAB i j a q)
    have w3 := wf_link (a := (build gs g ((N.piece []).link now N.reads.length) N.reads.length (N.reads.length + 1) N.reads.length).2) (b := N.reads.length + 1) b.2.1
    have w4 := wf_star (st := st) (a := N.reads.length) w3.1
    have c3 := cl_link d1 b.2.2.2 (show N.reads.length + 1 < _ by omega) d3
    have pa := (d2 N.reads.length (by omega)).trans oa
    have pb := (d2 (N.reads.length + 1) (by omega)).trans ob
    have ps := (d2 s (by omega)).trans (o1 s hs)
    have pe := (d2 e (by omega)).trans (o1 e he)
    have c4 := cl_star (a := N.reads.length) (st := st) c3 (by omega) fun z j => by rw [pa, pb, hA, z]; exact Iff.rfl
    obtain ⟨V3, f1, f2, f3⟩ := build_sound r _ s e (N.reads.length + 1) V2 w4.1 c4 (by omega) (by omega) (by omega) (by rw [ps, pb, pe, hB]; exact hd)
    exact ⟨V3, f1, fun n z => ((f2 n (by omega)).trans (d2 n (by omega))).trans (o1 n z), f3⟩
/-- what is reached keeps to the labels -/
theorem at_in {N : Net} {w : List Nat} {V : Nat → Pl} (h : Cl N w V) (h0 : V 0 0) : ∀ {n j : Nat}, At N w n j → V n j := by
  intro n j a
  induction a with
  | start => exact h0
  | jump _ q ih => exact h.jp _ _ q _ ih
  | read _ e hi m ih => exact h.rd _ _ _ _ e hi m ih
theorem net_sound {gs w : List Nat} (x : X) (h : At (netOf gs x) w 1 w.length) : Told w x := by
  have w0 : Wf ((⟨[], []⟩ : Net).piece []) := rfl
  have c0 : Cl (⟨[], []⟩ : Net) w (fun _ _ => False) := ⟨fun a b ⟨l, e, _⟩ => by simp at e, fun n l i c e => by simp at e, fun a b ⟨l, e, _⟩ => by simp at e, fun n l c e => by simp at e⟩
  have c1 := cl_piece (r := []) (N := ⟨[], []⟩) rfl c0 (fun j => j = 0) (img (fun j => j = 0) (den w x idR)) fun i c _ m => by cases m
  obtain ⟨V, d1, d2, d3⟩ := build_sound (gs := gs) x _ 0 1 0 _ w0 c1 (by decide) (by decide) (by decide) (by
    intro j q
    have q : denS w x (fun j => j = 0) (fun j => j = 0) j := q
    rw [den_img] at q
    exact q)
  have b := build_ok gs x ((⟨[], []⟩ : Net).piece []) 0 1 0 w0 (by decide) (by decide) (by decide)
  have hl : ((⟨[], []⟩ : Net).piece []).reads.length = 2 := rfl
  have c2 := cl_link d1 b.2.2.2 (show 1 < _ by omega) d3
  have v0 : V 0 0 := by rw [d2 0 (by decide)]; rfl
  have v1 := at_in c2 v0 h
  rw [d2 1 (by decide)] at v1
  obtain ⟨i, rfl, q⟩ := (show img (fun j => j = 0) (den w x idR) w.length from v1)
  exact q
/-- the net reads what the pattern tells, and nothing else -/
theorem net_told {gs w : List Nat} (hw : ∀ c ∈ w, c ∈ gs) (x : X) : At (netOf gs x) w 1 w.length ↔ Told w x := ⟨net_sound x, net_comp hw x⟩
end Pt

/-! Pt7: rows and branches; the rounds of a star -/
namespace Pt
def more : X → Option X
  | .nil => none
  | .bar r => some r
  | .sym _ _ r => more r
  | .grp _ _ r => more r
/-! ### rounds -/
open Classical in
/-- how many places up to L -/
noncomputable def cnt (L : Nat) (P : Pl) : Nat := ((List.range (L + 1)).filter fun j => decide (P j)).length
end Pt

/-! Pt8: the nodes after so many signs -/
namespace Pt
inductive JS (N : Net) : Nat → Nat → Prop
  | refl (a : Nat) : JS N a a
  | step {a b c : Nat} : JS N a b → Jp N b c → JS N a c
theorem at_js {N : Net} {w : List Nat} {a b i : Nat} (h : At N w a i) (j : JS N a b) : At N w b i := by
  induction j with
  | refl => exact h
  | step _ q ih => exact ih.jump q
theorem at_zero {N : Net} {w : List Nat} {n : Nat} : At N w n 0 ↔ JS N 0 n := by
  refine ⟨fun h => ?_, fun h => at_js .start h⟩
  have key : ∀ {n i : Nat}, At N w n i → i = 0 → JS N 0 n := by
    intro n i h
    induction h with
    | start => exact fun _ => .refl 0
    | jump _ q ih => exact fun e => (ih e).step q
    | read _ _ _ _ _ => exact fun e => by cases e
  exact key h rfl
theorem at_succ {N : Net} {w : List Nat} {n i : Nat} : At N w n (i + 1) ↔ ∃ m l c, At N w m i ∧ N.reads[m]? = some l ∧ w[i]? = some c ∧ c ∈ l ∧ JS N (m + 1) n := by
  refine ⟨fun h => ?_, fun ⟨m, l, c, a, e, hi, hc, j⟩ => at_js (a.read e hi hc) j⟩
  have key : ∀ {n k : Nat}, At N w n k → k = i + 1 → ∃ m l c, At N w m i ∧ N.reads[m]? = some l ∧ w[i]? = some c ∧ c ∈ l ∧ JS N (m + 1) n := by
    intro n k h
    induction h with
    | start => exact fun e => by cases e
    | jump _ q ih =>
      intro e
      obtain ⟨m, l, c, a, b, hi, hc, j⟩ := ih e
      exact ⟨m, l, c, a, b, hi, hc, j.step q⟩
    | @read n k c l a b hi hc _ =>
      intro e
      have e : k = i := by omega
      subst e
      exact ⟨n, l, c, a, b, hi, hc, .refl _⟩
  exact key h rfl
/-- only what is read counts -/
theorem at_take {N : Net} {w v : List Nat} : ∀ {i : Nat}, (∀ k, k < i → w[k]? = v[k]?) → ∀ {n : Nat}, At N w n i → At N v n i
  | 0, _, _, h => at_zero.mpr (at_zero.mp h)
  | i + 1, e, _, h => by
    obtain ⟨m, l, c, a, b, hi, hc, j⟩ := at_succ.mp h
    exact at_succ.mpr ⟨m, l, c, at_take (fun k hk => e k (by omega)) a, b, by rw [← e i (by omega)]; exact hi, hc, j⟩
end Pt

/-! Pt9: how many nodes read -/
namespace Pt
end Pt

/-! Pt10: the net sign by sign -/
namespace Pt
structure St where
  N : Net
  gr : List (Nat × Nat)
  now : Nat
  pc : Nat × Nat
def top (t : St) : Nat × Nat := t.gr.headD (0, 0)
def stp (gs : List Nat) (t : St) (c : Nat) : St :=
  if c = 124 then ⟨t.N.link t.now (top t).2, t.gr, (top t).1, t.pc⟩
  else if c = 42 then ⟨(t.N.link t.pc.1 t.pc.2).link t.pc.2 t.pc.1, t.gr, t.now, t.pc⟩
  else if c = 41 then ⟨t.N.link t.now (top t).2, t.gr.tail, (top t).2, top t⟩
  else if c = 40 then ⟨(t.N.piece (rl gs c)).link t.now t.N.reads.length, (t.N.reads.length, t.N.reads.length + 1) :: t.gr, t.N.reads.length, (t.N.reads.length, t.N.reads.length + 1)⟩
  else ⟨(t.N.piece (rl gs c)).link t.now t.N.reads.length, t.gr, t.N.reads.length + 1, (t.N.reads.length, t.N.reads.length + 1)⟩
def safe (gs : List Nat) : St → List Nat → Prop
  | _, [] => True
  | t, c :: r => (c = 124 ∨ c = 41 → t.gr ≠ []) ∧ safe gs (stp gs t c) r
theorem run_x {gs : List Nat} (hg : ∀ c ∈ gs, 97 ≤ c ∧ c ≤ 122) : ∀ (x : X), Ok gs x → ∀ (N : Net) (s e : Nat) (G : List (Nat × Nat)) (now : Nat) (pc : Nat × Nat), ∃ pc', ∀ r,
    (tx x ++ r).foldl (stp gs) ⟨N, (s, e) :: G, now, pc⟩ = r.foldl (stp gs) ⟨(build gs x N s e now).1, (s, e) :: G, (build gs x N s e now).2, pc'⟩ ∧
    (safe gs ⟨(build gs x N s e now).1, (s, e) :: G, (build gs x N s e now).2, pc'⟩ r → safe gs ⟨N, (s, e) :: G, now, pc⟩ (tx x ++ r))
  | .nil, _, N, s, e, G, now, pc => ⟨pc, fun r => ⟨rfl, id⟩⟩
  | .bar x, ok, N, s, e, G, now, pc => by
    obtain ⟨pc', h⟩ := run_x hg x ok (N.link now e) s e G s pc
    refine ⟨pc', fun r => ⟨?_, fun sf => ⟨fun _ => by simp, ?_⟩⟩⟩
    · exact (h r).1
    · exact (h r).2 sf
  | .sym c st x, ⟨hc, ok⟩, N, s, e, G, now, pc => by
    obtain ⟨pc', h⟩ := run_x hg x ok (((N.piece (rl gs c)).link now N.reads.length).star st N.reads.length) s e G (N.reads.length + 1) (N.reads.length, N.reads.length + 1)
    have cc : c ≠ 124 ∧ c ≠ 42 ∧ c ≠ 41 ∧ c ≠ 40 := by
      rcases hc with h | h
      · have := hg c h; omega
      · omega
    have e1 : stp gs ⟨N, (s, e) :: G, now, pc⟩ c = ⟨(N.piece (rl gs c)).link now N.reads.length, (s, e) :: G, N.reads.length + 1, (N.reads.length, N.reads.length + 1)⟩ := by
      unfold stp
      rw [if_neg cc.1, if_neg cc.2.1, if_neg cc.2.2.1, if_neg cc.2.2.2]
    refine ⟨pc', fun r => ?_⟩
    cases st with
    | false =>
      refine ⟨?_, fun sf => ⟨fun z => absurd z (by omega), ?_⟩⟩
      · show (tx x ++ r).foldl (stp gs) (stp gs ⟨N, (s, e) :: G, now, pc⟩ c) = _
        rw [e1]; exact (h r).1
      · show safe gs (stp gs ⟨N, (s, e) :: G, now, pc⟩ c) (tx x ++ r)
        rw [e1]; exact (h r).2 sf
    | true =>
      refine ⟨?_, fun sf => ⟨fun z => absurd z (by omega), ?_⟩⟩
      · show (tx x ++ r).foldl (stp gs) (stp gs (stp gs ⟨N, (s, e) :: G, now, pc⟩ c) 42) = _
        rw [e1]; exact (h r).1
      · show (_ → _) ∧ safe gs (stp gs (stp gs ⟨N, (s, e) :: G, now, pc⟩ c) 42) (tx x ++ r)
        rw [e1]; exact ⟨fun z => absurd z (by omega), (h r).2 sf⟩
  | .grp g st x, ⟨og, ok⟩, N, s, e, G, now, pc => by
    have e0 : rl gs 40 = [] := by
      unfold rl
      rw [if_neg (by decide), if_neg (fun h => by have := hg 40 h; omega)]
    obtain ⟨pc1, h1⟩ := run_x hg g og ((N.piece []).link now N.reads.length) N.reads.length (N.reads.length + 1) ((s, e) :: G) N.reads.length (N.reads.length, N.reads.length + 1)
    have key : ∀ B : Net × Nat, B = build gs g ((N.piece []).link now N.reads.length) N.reads.length (N.reads.length + 1) N.reads.length → ∃ pc', ∀ r,
        (stT st ++ (tx x ++ r)).foldl (stp gs) ⟨B.1.link B.2 (N.reads.length + 1), (s, e) :: G, N.reads.length + 1, (N.reads.length, N.reads.length + 1)⟩ = r.foldl (stp gs) ⟨(build gs x ((B.1.link B.2 (N.reads.length + 1)).star st N.reads.length) s e (N.reads.length + 1)).1, (s, e) :: G, (build gs x ((B.1.link B.2 (N.reads.length + 1)).star st N.reads.length) s e (N.reads.length + 1)).2, pc'⟩ ∧
        (safe gs ⟨(build gs x ((B.1.link B.2 (N.reads.length + 1)).star st N.reads.length) s e (N.reads.length + 1)).1, (s, e) :: G, (build gs x ((B.1.link B.2 (N.reads.length + 1)).star st N.reads.length) s e (N.reads.length + 1)).2, pc'⟩ r →
          safe gs ⟨B.1.link B.2 (N.reads.length + 1), (s, e) :: G, N.reads.length + 1, (N.reads.length, N.reads.length + 1)⟩ (stT st ++ (tx x ++ r))) := fun B _ => by
      obtain ⟨pc', h⟩ := run_x hg x ok ((B.1.link B.2 (N.reads.length + 1)).star st N.reads.length) s e G (N.reads.length + 1) (N.reads.length, N.reads.length + 1)
      refine ⟨pc', fun r => ?_⟩
      cases st with
      | false => exact h r
      | true => exact ⟨(h r).1, fun sf => ⟨fun z => absurd z (by omega), (h r).2 sf⟩⟩
    obtain ⟨pc', h2⟩ := key _ rfl
    refine ⟨pc', fun r => ?_⟩
    have et : tx (.grp g st x) ++ r = 40 :: (tx g ++ (41 :: (stT st ++ (tx x ++ r)))) := by
      show (40 :: (tx g ++ (41 :: (stT st ++ tx x)))) ++ r = _
      simp
    rw [et]
    have e1 : stp gs ⟨N, (s, e) :: G, now, pc⟩ 40 = ⟨(N.piece []).link now N.reads.length, (N.reads.length, N.reads.length + 1) :: (s, e) :: G, N.reads.length, (N.reads.length, N.reads.length + 1)⟩ := by
      unfold stp
      rw [if_neg (by decide), if_neg (by decide), if_neg (by decide), if_pos rfl, e0]
    refine ⟨?_, fun sf => ⟨fun z => absurd z (by omega), ?_⟩⟩
    · show (tx g ++ _).foldl (stp gs) (stp gs ⟨N, (s, e) :: G, now, pc⟩ 40) = _
      rw [e1, (h1 _).1]
      exact (h2 r).1
    · show safe gs (stp gs ⟨N, (s, e) :: G, now, pc⟩ 40) _
      rw [e1]
      exact (h1 _).2 ⟨fun _ => by simp, (h2 r).2 sf⟩
/-- what holds of the net after i signs -/
structure OkSt (i : Nat) (t : St) : Prop where
  wf : Wf t.N
  gr : ∀ g ∈ t.gr, g.1 < t.N.reads.length ∧ g.2 < t.N.reads.length
  now : t.now < t.N.reads.length
  p1 : t.pc.1 < t.N.reads.length
  p2 : t.pc.2 < t.N.reads.length
  len : t.N.reads.length ≤ 2 + 2 * i
  jl : ∀ l ∈ t.N.jumps, l.length ≤ 2 * i
  two : 2 ≤ t.N.reads.length
  jb : ∀ a b, Jp t.N a b → b < t.N.reads.length
  gl : t.gr.length ≤ i + 1
  rb : ∀ n l, t.N.reads[n]? = some l → l ≠ [] → n + 1 < t.N.reads.length
theorem rb_piece {N : Net} {r : List Nat} (h : ∀ n l, N.reads[n]? = some l → l ≠ [] → n + 1 < N.reads.length) : ∀ n l, (N.piece r).reads[n]? = some l → l ≠ [] → n + 1 < N.reads.length + 2 := fun n l e ne => by
  have e : (N.reads ++ [r, []])[n]? = some l := e
  by_cases g : n < N.reads.length
  · omega
  · rw [List.getElem?_append_right (by omega)] at e
    match k : n - N.reads.length with
    | 0 => omega
    | 1 => rw [k] at e; simp at e; exact absurd (by first | exact e | exact e.symm) ne
    | j + 2 => rw [k] at e; simp at e
theorem jb_link {N : Net} {a b L : Nat} (h : ∀ a b, Jp N a b → b < L) (hb : b < L) : ∀ c d, Jp (N.link a b) c d → d < L := fun c d j => by
  rcases jp_of_link j with j | ⟨_, rfl⟩
  · exact h c d j
  · exact hb
theorem jb_piece {N : Net} {r : List Nat} {L : Nat} (h : ∀ a b, Jp N a b → b < L) : ∀ a b, Jp (N.piece r) a b → b < L := fun a b ⟨l, e, m⟩ => by
  have e : (N.jumps ++ [[], []])[a]? = some l := e
  by_cases g : a < N.jumps.length
  · rw [List.getElem?_append_left g] at e
    exact h a b ⟨l, e, m⟩
  · rw [List.getElem?_append_right (by omega)] at e
    have : l ∈ [([] : List Nat), []] := List.mem_of_getElem? e
    simp at this
    subst this
    cases m
theorem link_len {N : Net} {a b k : Nat} (h : ∀ l ∈ N.jumps, l.length ≤ k) : ∀ l ∈ (N.link a b).jumps, l.length ≤ k + 1 := by
  intro l hl
  obtain ⟨i, hi, e⟩ := List.mem_iff_getElem.mp hl
  have e2 : (N.jumps.modify a (· ++ [b]))[i]? = some l := by
    rw [← e]; exact List.getElem?_eq_getElem hi
  rw [List.getElem?_modify] at e2
  cases f : N.jumps[i]? with
  | none => rw [f] at e2; simp at e2
  | some q =>
    rw [f] at e2
    have hq := h q (List.mem_of_getElem? f)
    have e2 : some (if a = i then q ++ [b] else q) = some l := e2
    by_cases g : a = i
    · rw [if_pos g] at e2
      have : q ++ [b] = l := by simpa using e2
      rw [← this, List.length_append]
      exact Nat.add_le_add_right hq 1
    · rw [if_neg g] at e2
      have : q = l := by simpa using e2
      rw [← this]
      omega
theorem piece_len {N : Net} {r : List Nat} {k : Nat} (h : ∀ l ∈ N.jumps, l.length ≤ k) : ∀ l ∈ (N.piece r).jumps, l.length ≤ k := by
  intro l hl
  have hl : l ∈ N.jumps ++ [[], []] := hl
  rcases List.mem_append.mp hl with m | m
  · exact h l m
  · simp at m
    subst m
    exact Nat.zero_le _
theorem OkSt.step {gs : List Nat} {i c : Nat} {t : St} (h : OkSt i t) (ne : c = 124 ∨ c = 41 → t.gr ≠ []) : OkSt (i + 1) (stp gs t c) := by
  have htop : c = 124 ∨ c = 41 → top t ∈ t.gr := fun z => by
    have := ne z
    unfold top
    cases e : t.gr with
    | nil => exact absurd e this
    | cons a l => exact List.mem_cons_self ..
  have l0 := h.len
  unfold stp
  by_cases h1 : c = 124
  · rw [if_pos h1]
    have ht := h.gr _ (htop (.inl h1))
    exact ⟨(wf_link h.wf).1, h.gr, ht.1, h.p1, h.p2, by show t.N.reads.length ≤ _; omega, fun l m => Nat.le_trans (link_len h.jl l m) (by omega), h.two, jb_link h.jb ht.2, Nat.le_succ_of_le h.gl, h.rb⟩
  rw [if_neg h1]
  by_cases h2 : c = 42
  · rw [if_pos h2]
    exact ⟨(wf_link (wf_link h.wf).1).1, h.gr, h.now, h.p1, h.p2, by show t.N.reads.length ≤ _; omega, fun l m => Nat.le_trans (link_len (link_len h.jl) l m) (by omega), h.two, jb_link (jb_link h.jb h.p2) h.p1, Nat.le_succ_of_le h.gl, h.rb⟩
  rw [if_neg h2]
  by_cases h3 : c = 41
  · rw [if_pos h3]
    have ht := h.gr _ (htop (.inr h3))
    exact ⟨(wf_link h.wf).1, fun g m => h.gr g (List.mem_of_mem_tail m), ht.2, ht.1, ht.2, by show t.N.reads.length ≤ _; omega, fun l m => Nat.le_trans (link_len h.jl l m) (by omega), h.two, jb_link h.jb ht.2, by show t.gr.tail.length ≤ _; rw [List.length_tail]; have := h.gl; omega, h.rb⟩
  rw [if_neg h3]
  have w1 := wf_piece (r := rl gs c) h.wf
  have w2 := wf_link (a := t.now) (b := t.N.reads.length) w1.1
  have el : ((t.N.piece (rl gs c)).link t.now t.N.reads.length).reads.length = t.N.reads.length + 2 := w2.2.trans w1.2
  have hj : ∀ l ∈ ((t.N.piece (rl gs c)).link t.now t.N.reads.length).jumps, l.length ≤ 2 * (i + 1) := fun l m => Nat.le_trans (link_len (piece_len h.jl) l m) (by omega)
  have h0 := h.now
  have hb : ∀ a b, Jp ((t.N.piece (rl gs c)).link t.now t.N.reads.length) a b → b < t.N.reads.length + 2 := jb_link (jb_piece fun a b j => Nat.lt_of_lt_of_le (h.jb a b j) (Nat.le_add_right _ _)) (by omega)
  have hgr : ∀ g ∈ t.gr, g.1 < t.N.reads.length + 2 ∧ g.2 < t.N.reads.length + 2 := fun g m => by have := h.gr g m; omega
  by_cases h4 : c = 40
  · rw [if_pos h4]
    refine ⟨w2.1, fun g m => ?_, ?_, ?_, ?_, ?_, hj, ?_, ?_, ?_, fun n l e ne => el ▸ rb_piece h.rb n l e ne⟩
    · rw [el]
      rcases List.mem_cons.mp m with rfl | m
      · exact ⟨by show t.N.reads.length < _; omega, by show t.N.reads.length + 1 < _; omega⟩
      · exact hgr g m
    all_goals (show _; simp only [el]; first | omega | exact hb | exact Nat.succ_le_succ h.gl | exact Nat.le_succ_of_le h.gl)
  · rw [if_neg h4]
    refine ⟨w2.1, fun g m => ?_, ?_, ?_, ?_, ?_, hj, ?_, ?_, ?_, fun n l e ne => el ▸ rb_piece h.rb n l e ne⟩
    · rw [el]; exact hgr g m
    all_goals (show _; simp only [el]; first | omega | exact hb | exact Nat.succ_le_succ h.gl | exact Nat.le_succ_of_le h.gl)
/-- the beginning -/
def st0 : St := ⟨(⟨[], []⟩ : Net).piece [], [(0, 1)], 0, (0, 1)⟩
theorem ok0 : OkSt 0 st0 := ⟨rfl, fun g m => by rw [List.mem_singleton.mp m]; decide, by decide, by decide, by decide, by decide, fun l m => by
  have m : l ∈ [([] : List Nat), []] := m
  simp at m
  subst m
  exact Nat.le_refl 0, by decide, fun a b j => by
    have := jb_piece (N := ⟨[], []⟩) (r := []) (L := 0) (fun a b ⟨l, e, _⟩ => by simp at e) a b j
    omega, Nat.le_refl _, fun n l e ne => rb_piece (N := ⟨[], []⟩) (fun n l e => by simp at e) n l e ne⟩
theorem run_net {gs : List Nat} (hg : ∀ c ∈ gs, 97 ≤ c ∧ c ≤ 122) {x : X} (ok : Ok gs x) : safe gs st0 (tx x) ∧ ((tx x).foldl (stp gs) st0).N.link ((tx x).foldl (stp gs) st0).now 1 = netOf gs x := by
  obtain ⟨pc', h⟩ := run_x hg x ok ((⟨[], []⟩ : Net).piece []) 0 1 [] 0 (0, 1)
  have h0 := h []
  rw [List.append_nil] at h0
  refine ⟨h0.2 True.intro, ?_⟩
  have e : (tx x).foldl (stp gs) st0 = _ := h0.1
  rw [e]
  rfl
theorem ok_run {gs : List Nat} : ∀ (r : List Nat) (i : Nat) (t : St), OkSt i t → safe gs t r → OkSt (i + r.length) (r.foldl (stp gs) t)
  | [], i, t, h, _ => h
  | c :: r, i, t, h, ⟨a, b⟩ => by
    have := ok_run r (i + 1) _ (h.step a) b
    rw [List.length_cons, show i + (r.length + 1) = i + 1 + r.length by omega]
    exact this
/-- what is known of the whole net -/
theorem net_ok {gs : List Nat} (hg : ∀ c ∈ gs, 97 ≤ c ∧ c ≤ 122) {x : X} (ok : Ok gs x) : Wf (netOf gs x) ∧ 2 ≤ (netOf gs x).reads.length ∧ (netOf gs x).reads.length ≤ 2 + 2 * (tx x).length ∧ (∀ l ∈ (netOf gs x).jumps, l.length ≤ 2 * (tx x).length + 1) ∧ (∀ a b, Jp (netOf gs x) a b → b < (netOf gs x).reads.length) ∧ ∀ n l, (netOf gs x).reads[n]? = some l → l ≠ [] → n + 1 < (netOf gs x).reads.length := by
  obtain ⟨h1, h2⟩ := run_net hg ok
  have h := ok_run (tx x) 0 st0 ok0 h1
  rw [Nat.zero_add] at h
  rw [← h2]
  exact ⟨(wf_link h.wf).1, h.two, h.len, link_len h.jl, jb_link h.jb (Nat.lt_of_lt_of_le (by decide) h.two), h.rb⟩
end Pt

namespace Own
open PySem PySem.Spec PyProof.Rows L2 SX GenW
/-! ### programs as trees of nodes -/
/-- what stands directly in a program -/
def PrtH (H : Hp) (v : V) (ps : List V) : Prop := ∃ a kd xs, v = .ref a ∧ H a = some (.tup (.str kd :: xs)) ∧ xs.length ≤ 1000 ∧
  ((kd = Str.ofString "block" ∧ ps = xs) ∨ ((kd = Str.ofString "if" ∨ kd = Str.ofString "while") ∧ ∃ c, xs = c :: ps) ∨
   ((kd = Str.ofString "skip" ∨ kd = Str.ofString "fill" ∨ kd = Str.ofString "fail" ∨ kd = Str.ofString "call") ∧ ps = []))
/-- a program and all programs in it, in order -/
inductive Nod (H : Hp) : V → List V → Prop
  | mk {v : V} {ps : List V} {outs : List (List V)} (h : PrtH H v ps) (k : Paired (Nod H) ps outs) : Nod H v (v :: outs.flatten)
theorem Nod.inv {H : Hp} {v : V} {out : List V} (n : Nod H v out) : ∃ ps outs, PrtH H v ps ∧ Paired (Nod H) ps outs ∧ out = v :: outs.flatten := by
  cases n with
  | mk h k => exact ⟨_, _, h, k, rfl⟩
theorem PrtH.keep {H H' : Hp} {v : V} {ps : List V} (k : ∀ a xs, H a = some (.tup xs) → H' a = some (.tup xs)) (h : PrtH H v ps) : PrtH H' v ps := by
  obtain ⟨a, kd, xs, e, h1, h2, h3⟩ := h
  exact ⟨a, kd, xs, e, k _ _ h1, h2, h3⟩
theorem Nod.keep {H H' : Hp} (k : ∀ a xs, H a = some (.tup xs) → H' a = some (.tup xs)) : ∀ {v : V} {out : List V}, Nod H v out → Nod H' v out := by
  have main : ∀ (n : Nat) (v : V) (out : List V), out.length ≤ n → Nod H v out → Nod H' v out := by
    intro n
    induction n with
    | zero =>
      intro v out hl h
      obtain ⟨ps, outs, _, _, rfl⟩ := h.inv
      simp at hl
    | succ n ih =>
      intro v out hl h
      obtain ⟨ps, outs, hp, hk, rfl⟩ := h.inv
      refine .mk (hp.keep k) ?_
      replace hl : outs.flatten.length ≤ n := by rw [List.length_cons] at hl; omega
      clear hp h
      induction hk with
      | nil => exact .nil
      | cons e _ ih2 =>
        rw [List.flatten_cons, List.length_append] at hl
        exact .cons (ih _ _ (by omega) e) (ih2 (by omega))
  exact fun {v out} h => main out.length v out (Nat.le_refl _) h

/-! ### rules whose reading names the context's own fragment, with the fragment told -/
section
variable {X : Cx} {K : PySem.W.Frag} {a o e : Expr} {es : List Expr} {ta to te : TE} {t : TA} {name : Str} {apos cpos p pos : Pos} {T id : String} {r : V → List V → Hp → VK → Prop} {tg : Expr}
theorem pt_truthF (hK : X.K = K) (ha : PE X a ta) (he : ∀ whole, isTrue a X.env whole = (do let v ← whole; standAt a.pos; holding [v] (truthy v))) : PT X a (fun σ H Q => ta σ H fun x H' => ∃ k, TruV K x H' k ∧ Q k H') := by
  subst hK; exact pt_truth ha he
theorem pe_bm0F (hK : X.K = K) (pa : PlainAttrs T) (slot : Slot T name id) (hty : typeOf (.builtin id) = pure (.type "method_descriptor")) (hm : MtR X id r) (ho : PE X o to)
    (hbase : attributeBase o name X.env (eval o X.env) = eval o X.env := by rfl) (hline : (apos.endLine == cpos.line) = true := by rfl) : PE X (.Call (.Attribute o name apos) [] [] cpos) (tBM0 K T r to) := by
  subst hK; exact pe_bm0 pa slot hty hm ho hbase hline
theorem pe_bmF (hK : X.K = K) (pa : PlainAttrs T) (slot : Slot T name id) (hty : typeOf (.builtin id) = pure (.type "method_descriptor")) (hm : MtR X id r) (ho : PE X o to) (ha : PA X (e :: es) t)
    (hbase : attributeBase o name X.env (eval o X.env) = eval o X.env := by rfl) (hfew : ((backTo cpos (starEach (e :: es) X.env)).all (fun x => !x.1) && (backToKw cpos (keywordEach [] X.env)).all (fun x => x.1.isSome) && decide ((e :: es).length + ([] : List Keyword).length + (if ([] : List Keyword).isEmpty then 0 else 1) < 30)) = true := by rfl) (hline : (apos.endLine == cpos.line) = true := by rfl) (hs : starEach (e :: es) X.env = (false, eval e X.env) :: starEach es X.env := by rfl) (hplain : (backTo cpos (starEach es X.env)).any (·.1) = false := by rfl) :
    PE X (.Call (.Attribute o name apos) (e :: es) [] cpos) (tBM K T r to t) := by
  subst hK; exact pe_bm pa slot hty hm ho ha hbase hfew hline hs hplain
theorem pi_revF (hK : X.K = K) (hg : Gl X "reversed") (hm : X.mg "reversed" = none) (he : PE X e te) (hs : starEach [e] X.env = (false, eval e X.env) :: starEach [] X.env := by rfl) : PI X tg (.Call (.Name "reversed" p) [e] [] pos) (RT.iRevA K te) := by
  subst hK; exact RT.pi_revA hg hm he hs
end

/-! ### whether conditions hold -/
open Classical in
/-- the items of a template's text, at most n -/
noncomputable def itsOf (gs : List Nat) (n : Nat) (x : List Nat) : List (List Nat) := if h : ∃ i, Row gs i ∧ i.length ≤ n ∧ rTx gs i = x then choose h else []
def Its_ (gs : List Nat) (n : Nat) (x : List Nat) : Prop := ∃ i, Row gs i ∧ i.length ≤ n ∧ rTx gs i = x
theorem its_spec {gs : List Nat} {n : Nat} {x : List Nat} (h : Its_ gs n x) : Row gs (itsOf gs n x) ∧ (itsOf gs n x).length ≤ n ∧ rTx gs (itsOf gs n x) = x := by
  unfold itsOf
  rw [dif_pos (show ∃ i, Row gs i ∧ i.length ≤ n ∧ rTx gs i = x from h)]
  exact Classical.choose_spec h
open Classical in
noncomputable def xOf (gs : List Nat) (p : List Nat) : Pt.X := if h : ∃ x, Pt.Ok gs x ∧ Pt.tx x = p then choose h else .nil
theorem x_spec {gs p : List Nat} (h : ∃ x, Pt.Ok gs x ∧ Pt.tx x = p) : Pt.Ok gs (xOf gs p) ∧ Pt.tx (xOf gs p) = p := by
  unfold xOf
  rw [dif_pos h]
  exact Classical.choose_spec h
def holdW : Nat → List Str
  | 0 => [Str.ofString "equal"]
  | 1 => [Str.ofString "equal", Str.ofString "shorter"]
  | 2 => [Str.ofString "equal", Str.ofString "shorter"]
  | _ => [Str.ofString "less", Str.ofString "shorter"]
open Cnd Classical in
noncomputable def ansC (gs w : List Nat) : Cd → Bool
  | .named _ => false
  | .mat p => decide (Pt.Told w (xOf gs p))
  | .len r m => decide (w.length % m = r)
  | .tpl k _ _ x y => if k = 2 then decide (cmpW gs (fillL gs (itsOf gs 2 x).reverse w.reverse) (fillL gs (itsOf gs 2 y).reverse w.reverse) ∈ holdW k) else decide (cmpW gs (fillL gs (itsOf gs 2 x) w) (fillL gs (itsOf gs 2 y) w) ∈ holdW k)
  | .no c => !ansC gs w c
  | .two true a b => ansC gs w a && ansC gs w b
  | .two false a b => ansC gs w a || ansC gs w b
/-- a condition without parts and names, as runs ask it -/
inductive OkR (gs : List Nat) : Cnd.Cd → Prop
  | mat {p : List Nat} : (∃ x, Pt.Ok gs x ∧ Pt.tx x = p) → p.length ≤ 100 → OkR gs (.mat p)
  | len {r m : Nat} : r < m → m ≤ 60 → OkR gs (.len r m)
  | tpl {k : Nat} {a b x y : List Nat} : k ≤ 3 → Its_ gs 2 x → Its_ gs 2 y → OkR gs (.tpl k a b x y)

theorem inV_str {m : Str} : ∀ {l : List Str}, inV (.str m) (l.map V.str) = decide (m ∈ l)
  | [] => rfl
  | n :: l => by
    have ih := inV_str (m := m) (l := l)
    have h1 : inV (.str m) ((n :: l).map V.str) = ((n == m) || inV (.str m) (l.map V.str)) := rfl
    rw [h1, ih]
    by_cases e : n = m
    · subst e
      rw [beq_self_eq_true, Bool.true_or, decide_eq_true (List.mem_cons_self ..)]
    · rw [beq_eq_false_iff_ne.mpr e, Bool.false_or]
      simp [Ne.symm e]
theorem flat_str : ∀ l : List Str, (l.map V.str).all flatV = true
  | [] => rfl
  | _ :: l => flat_str l
end Own

namespace Own
open PySem PySem.Spec PyProof.Rows L2 SX GenW Prg Cnd
/-! ### programs as they lie; the states of a run -/
def LfH (H : Hp) : Lf → V → Prop
  | .skip, v => ∃ a, v = .ref a ∧ H a = some (.tup [.str (Str.ofString "skip")])
  | .fill _ x, v => ∃ a, v = .ref a ∧ H a = some (.tup [.str (Str.ofString "fill"), tx x])
  | .fail n, v => ∃ a, v = .ref a ∧ H a = some (.tup [.str (Str.ofString "fail"), tx n])
  | .call n, v => ∃ a, v = .ref a ∧ H a = some (.tup [.str (Str.ofString "call"), tx n])
/-- a sequence of programs as one program: it stands alone, or in a block -/
def Blk (H : Hp) (vs : List V) (v : V) : Prop := vs = [v] ∨ (2 ≤ vs.length ∧ ∃ a, v = .ref a ∧ H a = some (.tup (.str (Str.ofString "block") :: vs)))
def SqH (H : Hp) : Pr → List V → Prop
  | .nil, vs => vs = []
  | .leaf l r, vs => ∃ v ws, vs = v :: ws ∧ LfH H l v ∧ SqH H r ws
  | .whil c p r, vs => ∃ a x y ys ws, vs = .ref a :: ws ∧ H a = some (.tup [.str (Str.ofString "while"), x, y]) ∧ CdH H c x ∧ SqH H p ys ∧ Blk H ys y ∧ SqH H r ws
  | .cond c p q r, vs => ∃ a x y z ys zs ws, vs = .ref a :: ws ∧ H a = some (.tup [.str (Str.ofString "if"), x, y, z]) ∧ CdH H c x ∧ SqH H p ys ∧ Blk H ys y ∧ SqH H q zs ∧ Blk H zs z ∧ SqH H r ws
def PgH (H : Hp) (p : Pr) (v : V) : Prop := ∃ vs, SqH H p vs ∧ Blk H vs v
section
variable {H H' : Hp}
theorem LfH.keep (k : ∀ a xs, H a = some (.tup xs) → H' a = some (.tup xs)) : ∀ {l : Lf} {v : V}, LfH H l v → LfH H' l v
  | .skip, _, ⟨a, e, h⟩ | .fill _ _, _, ⟨a, e, h⟩ | .fail _, _, ⟨a, e, h⟩ | .call _, _, ⟨a, e, h⟩ => ⟨a, e, k _ _ h⟩
theorem Blk.keep (k : ∀ a xs, H a = some (.tup xs) → H' a = some (.tup xs)) {vs : List V} {v : V} (h : Blk H vs v) : Blk H' vs v :=
  h.elim .inl fun ⟨l, a, e, h⟩ => .inr ⟨l, a, e, k _ _ h⟩
theorem SqH.keep (k : ∀ a xs, H a = some (.tup xs) → H' a = some (.tup xs)) : ∀ {p : Pr} {vs : List V}, SqH H p vs → SqH H' p vs
  | .nil, _, h => h
  | .leaf l r, _, ⟨v, ws, e, h, i⟩ => ⟨v, ws, e, h.keep k, i.keep k⟩
  | .whil c p r, _, ⟨a, x, y, ys, ws, e, h, hc, hp, hb, hr⟩ => ⟨a, x, y, ys, ws, e, k _ _ h, hc.keep k, hp.keep k, hb.keep k, hr.keep k⟩
  | .cond c p q r, _, ⟨a, x, y, z, ys, zs, ws, e, h, hc, hp, hb, hq, hd, hr⟩ => ⟨a, x, y, z, ys, zs, ws, e, k _ _ h, hc.keep k, hp.keep k, hb.keep k, hq.keep k, hd.keep k, hr.keep k⟩
theorem PgH.keep (k : ∀ a xs, H a = some (.tup xs) → H' a = some (.tup xs)) {p : Pr} {v : V} (h : PgH H p v) : PgH H' p v := let ⟨vs, a, b⟩ := h; ⟨vs, a.keep k, b.keep k⟩
end
/-- what a run asks of a program -/
def okL (gs : List Nat) : Lf → Prop
  | .skip => True
  | .fill _ x => Its_ gs 3 x
  | .fail _ => True
  | .call _ => False
def OkP (gs : List Nat) : Pr → Prop
  | .nil => True
  | .leaf l r => okL gs l ∧ OkP gs r
  | .whil c p r => OkR gs c ∧ some? p = true ∧ OkP gs p ∧ OkP gs r
  | .cond c p q r => OkR gs c ∧ some? p = true ∧ some? q = true ∧ OkP gs p ∧ OkP gs q ∧ OkP gs r
/-- the programs of a sequence, each alone -/
def elems : Pr → List Pr
  | .nil => []
  | .leaf l r => .leaf l .nil :: elems r
  | .whil c p r => .whil c p .nil :: elems r
  | .cond c p q r => .cond c p q .nil :: elems r
theorem ok_elems {gs : List Nat} : ∀ {p : Pr}, OkP gs p → ∀ e ∈ elems p, OkP gs e ∧ some? e = true
  | .nil, _, e, h => nomatch h
  | .leaf l r, ⟨a, b⟩, e, h => by
    rcases List.mem_cons.mp h with rfl | h
    · exact ⟨⟨a, True.intro⟩, rfl⟩
    · exact ok_elems b e h
  | .whil c p r, ⟨a, b, d, f⟩, e, h => by
    rcases List.mem_cons.mp h with rfl | h
    · exact ⟨⟨a, b, d, True.intro⟩, rfl⟩
    · exact ok_elems f e h
  | .cond c p q r, ⟨a, b, d, f, g, i⟩, e, h => by
    rcases List.mem_cons.mp h with rfl | h
    · exact ⟨⟨a, b, d, f, g, True.intro⟩, rfl⟩
    · exact ok_elems i e h
theorem sq_elems {H : Hp} : ∀ {p : Pr} {vs : List V}, SqH H p vs → Paired (fun e v => SqH H e [v]) (elems p) vs
  | .nil, _, h => by cases h; exact .nil
  | .leaf l r, _, ⟨v, ws, e, h, i⟩ => by subst e; exact .cons ⟨v, [], rfl, h, rfl⟩ (sq_elems i)
  | .whil c p r, _, ⟨a, x, y, ys, ws, e, h, hc, hp, hb, hr⟩ => by subst e; exact .cons ⟨a, x, y, ys, [], rfl, h, hc, hp, hb, rfl⟩ (sq_elems hr)
  | .cond c p q r, _, ⟨a, x, y, z, ys, zs, ws, e, h, hc, hp, hb, hq, hd, hr⟩ => by subst e; exact .cons ⟨a, x, y, z, ys, zs, [], rfl, h, hc, hp, hb, hq, hd, rfl⟩ (sq_elems hr)
theorem elems_some : ∀ {p : Pr}, some? p = true → ∃ e r, elems p = e :: r
  | .nil, h => nomatch h
  | .leaf l r, _ => ⟨_, _, rfl⟩
  | .whil c p r, _ => ⟨_, _, rfl⟩
  | .cond c p q r, _ => ⟨_, _, rfl⟩
end Own

namespace Own
open PySem PySem.Spec PyProof.Rows L2 SX
/-! ### a head told by facts: one Bool over the written part, the defs, the tables of code objects -/
abbrev Fct : Type := PySem.W.Frag → Bool
/-- the table of a def's code object -/
def codT (K : PySem.W.Frag) (f : Addr) : Addr × Addr := match K.lookup f with
  | some ⟨_, _, .func fd, _⟩ => (match fd.code with
    | .ref c => (c, He.tabOf K c)
    | _ => (0, 0))
  | _ => (0, 0)
structure Told (fs : List Fct) (fn : List He5.DefA) (tf : List (PySem.W.Frag → Addr)) (h : Heap) (K : PySem.W.Frag) : Prop where
  facts : (fs.all fun f => f K) = true
  oks : (fn.all fun d => d.ok K) = true
  defs : (fn.map fun d => He5.fnA K (d.at_ K)) = fn.map He5.DefA.val
  hd : ∀ p ∈ tf, PySem.W.codeHdIn K (codT K (p K)).1 (codT K (p K)).2 = true
  out : ∀ p ∈ tf, K.lookup (codT K (p K)).2 = none
  empty : ∀ p ∈ tf, h.get? (codT K (p K)).2 = some { cls := .none, data := .fields #[] }
def tabB (g : Addr → Option Obj) (tf : List (PySem.W.Frag → Addr)) (K : PySem.W.Frag) : Bool := tf.all fun p => PySem.W.codeHdIn K (codT K (p K)).1 (codT K (p K)).2 && (match g (codT K (p K)).2 with
  | some o => He.emptyTab o
  | none => false)
abbrev partO (n : List Addr) (g : Addr → Option Obj) : PySem.W.Frag := He.frT g n
def obsO (n : List Addr) (fs : List Fct) (fn : List He5.DefA) (tf : List (PySem.W.Frag → Addr)) (g : Addr → Option Obj) : Bool × List He.FnW :=
  ((fs.all fun f => f (partO n g)) && ((fn.all fun d => d.ok (partO n g)) && tabB g tf (partO n g)), fn.map fun d => He5.fnA (partO n g) (d.at_ (partO n g)))
theorem told_of {n : List Addr} {fs : List Fct} {fn : List He5.DefA} {tf : List (PySem.W.Frag → Addr)} {h : Heap} (e : obsO n fs fn tf h.get? = (true, fn.map He5.DefA.val)) : Told fs fn tf h (partO n h.get?) := by
  obtain ⟨e1, e2⟩ := Prod.mk.injEq .. ▸ e
  obtain ⟨c1, c2⟩ := Bool.and_eq_true_iff.mp e1
  obtain ⟨c3, c4⟩ := Bool.and_eq_true_iff.mp c2
  have each : ∀ p ∈ tf, PySem.W.codeHdIn (partO n h.get?) (codT (partO n h.get?) (p (partO n h.get?))).1 (codT (partO n h.get?) (p (partO n h.get?))).2 = true ∧ ∃ o, h.get? (codT (partO n h.get?) (p (partO n h.get?))).2 = some o ∧ He.emptyTab o = true := fun p hp => by
    obtain ⟨d1, d2⟩ := Bool.and_eq_true_iff.mp (List.all_eq_true.mp c4 p hp)
    refine ⟨d1, ?_⟩
    generalize h.get? (codT (partO n h.get?) (p (partO n h.get?))).2 = x at d2
    cases x with
    | none => cases d2
    | some o => exact ⟨o, rfl, d2⟩
  refine ⟨c1, c3, e2, fun p hp => (each p hp).1, fun p hp => ?_, fun p hp => ?_⟩
  · obtain ⟨_, o, q, z⟩ := each p hp
    exact He.frT_none q z
  · obtain ⟨_, o, q, z⟩ := each p hp
    rw [q, He.emptyTab_eq z]
section
variable {fs : List Fct} {fn : List He5.DefA} {tf : List (PySem.W.Frag → Addr)} {h : Heap} {K : PySem.W.Frag}
theorem Told.fact (c : Told fs fn tf h K) (i : Nat) {f : Fct} (e : fs[i]? = some f := by rfl) : f K = true := List.all_eq_true.mp c.facts f (List.mem_of_getElem? e)
theorem Told.def_ (c : Told fs fn tf h K) (i : Nat) {d : He5.DefA} (e : fn[i]? = some d := by rfl) : ∃ fd, FunD K d.name d.qual d.params d.body d.scope (d.dvs K) (d.kws K) (d.at_ K) fd := by
  have e2 : (fn.map fun d => He5.fnA K (d.at_ K))[i]? = (fn.map He5.DefA.val)[i]? := by rw [c.defs]
  rw [List.getElem?_map, List.getElem?_map, e] at e2
  exact He5.DefA.funD (Option.some.inj e2) (List.all_eq_true.mp c.oks d (List.mem_of_getElem? e))
end
/-! ### facts -/
def wfP (K : PySem.W.Frag) (C : Addr) (m : Str) : Addr := He5.wf K C "property" m
def propB (C m : Str) : Fct := fun K => He.eqO (PySem.W.findIn K (.ref (He.ga K C)) m) (some (some (.ref (He.ma K (He.ga K C) m)))) && (decide (PySem.W.specialIn K (.ref (He.ma K (He.ga K C) m)) "__get__" = some (some (.builtin "property.__get__"))) &&
  (decide (PySem.W.takesIn K (.ref (He.ma K (He.ga K C) m)) = some true) && (match PySem.W.recIn K (He.ma K (He.ga K C) m) "property" with
    | some (.ref f :: _) => decide (f = wfP K (He.ga K C) m)
    | _ => false)))
theorem prop_ok {K : PySem.W.Frag} {C m : Str} (h : propB C m K = true) : PropOf K (He.ga K C) m (He.ma K (He.ga K C) m) (wfP K (He.ga K C) m) := by
  obtain ⟨h1, h⟩ := Bool.and_eq_true_iff.mp h
  obtain ⟨h2, h⟩ := Bool.and_eq_true_iff.mp h
  obtain ⟨h3, h4⟩ := Bool.and_eq_true_iff.mp h
  refine ⟨He.eqO_ok h1, of_decide_eq_true h2, of_decide_eq_true h3, ?_⟩
  generalize PySem.W.recIn K (He.ma K (He.ga K C) m) "property" = x at h4
  cases x with
  | none => cases h4
  | some l =>
    cases l with
    | nil => cases h4
    | cons v r =>
      cases v with
      | ref f => exact ⟨r, by rw [of_decide_eq_true h4]⟩
      | _ => cases h4
abbrev faB (f : He.Fa) : Fct := fun K => f.ok K
/-- an own def, where it stands -/
abbrev dG (x : Str) (st : Stmt) : He5.DefA := { at_ := fun K => He.ga K x, name := x, qual := x, params := defArgs st, body := defBody st, scope := defScope st }
abbrev dM (C m q : Str) (st : Stmt) : He5.DefA := { at_ := fun K => He.ma K (He.ga K C) m, name := m, qual := q, params := defArgs st, body := defBody st, scope := defScope st }
abbrev dP (C m q : Str) (st : Stmt) : He5.DefA := { at_ := fun K => wfP K (He.ga K C) m, name := m, qual := q, params := defArgs st, body := defBody st, scope := defScope st }
/-- behind world's special-get-raises both ways -/
theorem two_ways {R : PySem.W.OpenRow} {q : Program} {H : PySem.W.Hook} {ob : PySem.W.SharedT → H.α} {M : Nat} {loose : List Str} (hf : ∀ w : World, HandSHeadRun.RunEq R q H ob M loose (w.withFollow "special-get-raises" false))
    (ht : ∀ w : World, HandSHeadRun.RunEq R q H ob M loose (w.withFollow "special-get-raises" true)) (w : World) : HandSHeadRun.RunEq R q H ob M loose w := PySem.W.byRow2 "special-get-raises" hf ht w
end Own

namespace Own
open PySem PySem.Spec PyProof.Rows L2 SX RZ
open Builtin Builtin.ObjectAttr
/-! ### own errors over LookupError -/
section
variable {prog : Program} {w : World} {A : Around} {R : Result → Shared → Prop} {hp : Heap} {gens : Array GenState} {dr : Drawn} {tk0 : Nat} {os : OsState} {K : PySem.W.Frag} {nm : Str} {tk : Tok} {v : Value} {e C : Addr} {fv : Array Value} {cd : ClassData}
end
section
variable {X : Cx} {pins : List (Addr × Obj)} {σ : L2.St} {H : Hp} {s : Shared} {a C : Addr} {f : Str} {y : V} {u : Value} {Q : Unit → Shared → Prop} {E : Value → Shared → Prop} {A : Around}
end
/-! the facts, computed -/
end Own

namespace Own
open PySem PySem.Spec PyProof.Rows L2 SX
/-! ### e[k].replace('y', 'z'): the number k makes the token that replace asks for -/
def tReplK (to : TE) (y z : Str) : TE := fun σ H Q => to σ H fun v H1 => ∃ x : Str, v = .str x ∧ x.length + (x.length + 1) * z.length ≤ 16777216 ∧ Q (.str (Txt.replace x y z)) H1
theorem pe_replK {X : Cx} {a : Expr} {ta : TE} {r : R2} {k : Int} {y z : Str} {j j1 j2 : Nat} {c0 c1 c2 p0 apos pos : Pos} (hr : IxR X r) (ha : PE X a ta) (hp : PlainIx (.Constant (.int k) j c0)) (hyz : (y == z) = false := by decide)
    (hst : starEach [.Constant (.str y) j1 c1, .Constant (.str z) j2 c2] X.env = [(false, eval (.Constant (.str y) j1 c1) X.env), (false, eval (.Constant (.str z) j2 c2) X.env)] := by rfl)
    (hbase : attributeBase (.Subscript a (.Constant (.int k) j c0) p0) "replace" X.env (eval (.Subscript a (.Constant (.int k) j c0) p0) X.env) = eval (.Subscript a (.Constant (.int k) j c0) p0) X.env := by rfl) (hline : (apos.endLine == pos.line) = true := by rfl) :
    PE X (.Call (.Attribute (.Subscript a (.Constant (.int k) j c0) p0) "replace" apos) [.Constant (.str y) j1 c1, .Constant (.str z) j2 c2] [] pos) (tReplK (tOp r ta (tC (.int k))) y z) := by
  refine ⟨fun pins s σ H Q I h => PySem.Call_method2 hbase hst hline ?_⟩
  have got : wpAny (model X.prog X.w) X.A (eval (.Subscript a (.Constant (.int k) j c0) p0) X.env) (fun v s1 => 1 ≤ s1.toks ∧ EP X pins σ (fun v H1 => ∃ x : Str, v = .str x ∧ x.length + (x.length + 1) * z.length ≤ 16777216 ∧ Q (.str (Txt.replace x y z)) H1) v s1) X.xe s := by
    refine Subscript_ (thn (ha.run pins s σ H _ I h) fun v s1 ⟨x, H1, I1, r1, q1⟩ => ?_)
    refine wpAny_Constant_int ?_
    have run := hr a (.Constant (.int k) j c0) pins { s1 with toks := s1.toks + 1 } σ H1 x (.int k) v (.int k s1.toks) _ (I1.tok _) r1 ⟨_, rfl⟩ q1 (hp _ _)
    exact wpAny_mono (PySem.wpAny_toks_of (n := 1) (by show 1 ≤ s1.toks + 1; omega) run) (fun _ _ q => q) fun _ _ e => e.2
  refine thn got fun v s1 ⟨hk, v', H1, I1, r1, x, ex, hb, q⟩ => ?_
  subst ex
  obtain ⟨t1, rfl⟩ := r1
  refine ⟨"str", _, PySem.F.plainAttrs_str, PySem.F.slot_str_replace, PySem.F.type_str_replace, typeIs_str _ _ _, (fun _ e => nomatch e), Calls.callWith_builtin rfl (Calls.evalArgs_plain (Calls.spliced_cons ?_))⟩
  refine Calls.Constant_str (Calls.spliced_cons (Calls.Constant_str (Calls.spliced_nil ?_)))
  exact PySem.SC.replace (by show s1.toks ≠ 0; omega) (by show s1.toks + 1 ≠ 0; omega) (by show s1.toks ≠ s1.toks + 1; omega) hyz hb fun t' k => ⟨.str (Txt.replace x y z), H1, I1.tok k, ⟨t', rfl⟩, q⟩
end Own

namespace Own
open PySem PySem.Spec PyProof.Rows L2 SX
/-! ### beginnings and ends; patterns c.* and .*c -/
theorem sw_pre {xs ys : List Nat} : Txt.startswith (S xs) (S ys) = decide (ys <+: xs) := by
  unfold Txt.startswith
  rw [PySem.StrLaws.subAt_eq, S_len, S_len]
  show (decide (0 + ys.length ≤ xs.length) && ((xs.drop 0).take ys.length == ys)) = _
  rw [List.drop_zero, Nat.zero_add]
  by_cases h : ys <+: xs
  · rw [decide_eq_true h, decide_eq_true h.length_le, ← List.prefix_iff_eq_take.mp h]
    simp
  · rw [decide_eq_false h]
    have : (xs.take ys.length == ys) = false := by
      rw [beq_eq_false_iff_ne]
      exact fun z => h (List.prefix_iff_eq_take.mpr z.symm)
    rw [this, Bool.and_false]
theorem sw_suf {xs ys : List Nat} : Txt.endswith (S xs) (S ys) = decide (ys <:+ xs) := by
  unfold Txt.endswith
  rw [PySem.StrLaws.subAt_eq, S_len, S_len]
  show (decide (0 + ys.length ≤ xs.length) && ((xs.drop (xs.length - ys.length)).take ys.length == ys)) = _
  rw [Nat.zero_add]
  by_cases h : ys <:+ xs
  · obtain ⟨z, rfl⟩ := h
    rw [decide_eq_true (List.suffix_append z ys), decide_eq_true (by rw [List.length_append]; omega), List.length_append, Nat.add_sub_cancel, List.drop_left, List.take_length]
    simp
  · rw [decide_eq_false h]
    by_cases hl : ys.length ≤ xs.length
    · have : ((xs.drop (xs.length - ys.length)).take ys.length == ys) = false := by
        rw [beq_eq_false_iff_ne]
        intro z
        have e : (xs.drop (xs.length - ys.length)).take ys.length = xs.drop (xs.length - ys.length) := List.take_of_length_le (by rw [List.length_drop]; omega)
        rw [e] at z
        have q := List.take_append_drop (xs.length - ys.length) xs
        rw [z] at q
        exact h ⟨_, q⟩
      rw [this, Bool.and_false]
    · rw [decide_eq_false hl, Bool.false_and]
theorem star_any {w : List Nat} {i : Nat} : ∀ {j : Nat}, i ≤ j → j ≤ w.length → Pt.starR (Pt.symR w 46) i j := by
  intro j
  induction j with
  | zero => intro h _; obtain rfl : i = 0 := by omega
            exact .refl _
  | succ j ih =>
    intro h l
    by_cases e : i = j + 1
    · rw [e]; exact .refl _
    · exact .step (ih (by omega) (by omega)) ⟨rfl, _, List.getElem?_eq_getElem (by omega), .inr rfl⟩
theorem told_pre {w : List Nat} {c : Nat} (hc : c ≠ 46) : Pt.Told w (.sym c false (.sym 46 true .nil)) ↔ [c] <+: w := by
  show (∃ k, (∃ l, (0 : Nat) = l ∧ Pt.symR w c l k) ∧ Pt.starR (Pt.symR w 46) k w.length) ↔ _
  constructor
  · rintro ⟨k, ⟨l, rfl, rfl, d, hd, h⟩, _⟩
    rcases h with rfl | h
    · cases w with
      | nil => cases hd
      | cons x r => cases hd; exact ⟨r, rfl⟩
    · exact absurd h hc
  · rintro ⟨r, rfl⟩
    exact ⟨1, ⟨0, rfl, rfl, c, rfl, .inl rfl⟩, star_any (by show 1 ≤ r.length + 1; omega) (Nat.le_refl _)⟩
theorem told_suf {w : List Nat} {c : Nat} (hc : c ≠ 46) : Pt.Told w (.sym 46 true (.sym c false .nil)) ↔ [c] <:+ w := by
  show (∃ k, (∃ l, (0 : Nat) = l ∧ Pt.starR (Pt.symR w 46) l k) ∧ Pt.symR w c k w.length) ↔ _
  constructor
  · rintro ⟨k, _, hk, d, hd, h⟩
    rcases h with rfl | h
    · refine ⟨w.take k, ?_⟩
      have e := List.take_append_drop k w
      have l1 : (w.drop k).length = 1 := by rw [List.length_drop]; omega
      have : w.drop k = [c] := by
        have h0 : (w.drop k)[0]? = some c := by rw [List.getElem?_drop]; exact hd
        match hq : w.drop k, l1, h0 with
        | [x], _, h0 => cases h0; rfl
      rw [← this]; exact e
    · exact absurd h hc
  · rintro ⟨r, rfl⟩
    have l : (r ++ [c]).length = r.length + 1 := by rw [List.length_append]; rfl
    refine ⟨r.length, ⟨0, rfl, star_any (Nat.zero_le _) (by omega)⟩, l, c, ?_, .inl rfl⟩
    rw [List.getElem?_append_right (Nat.le_refl _), Nat.sub_self]; rfl
theorem x_pre {gs : List Nat} (az : ∀ c ∈ gs, 97 ≤ c ∧ c ≤ 122) {c : Nat} (hc : c ∈ gs) {x : Pt.X} (ok : Pt.Ok gs x) (e : Pt.tx x = [c, 46, 42]) : x = .sym c false (.sym 46 true .nil) := by
  have hcz := az c hc
  cases x with
  | nil => cases e
  | bar r => injection e with e1 e2; omega
  | grp g st r => injection e with e1 e2; omega
  | sym s st r =>
    injection e with e1 e2
    subst e1
    cases st with
    | true => injection e2 with e3 _; cases e3
    | false =>
      have e2 : Pt.tx r = [46, 42] := e2
      cases r with
      | nil => cases e2
      | bar r => injection e2 with e3 _; cases e3
      | grp g st r => injection e2 with e3 _; cases e3
      | sym s2 st2 r2 =>
        injection e2 with e3 e4
        subst e3
        cases st2 with
        | true =>
          have e4 : 42 :: Pt.tx r2 = [42] := e4
          injection e4 with _ e5
          cases r2 with
          | nil => rfl
          | _ => cases e5
        | false =>
          have e4 : Pt.tx r2 = [42] := e4
          cases r2 with
          | nil => cases e4
          | bar r => injection e4 with e5 _; cases e5
          | grp g st r => injection e4 with e5 _; cases e5
          | sym s3 st3 r3 =>
            injection e4 with e5 _
            subst e5
            rcases ok.2.2.1 with h | h
            · have := az 42 h; omega
            · cases h
theorem x_suf {gs : List Nat} (az : ∀ c ∈ gs, 97 ≤ c ∧ c ≤ 122) {c : Nat} (hc : c ∈ gs) {x : Pt.X} (ok : Pt.Ok gs x) (e : Pt.tx x = [46, 42, c]) : x = .sym 46 true (.sym c false .nil) := by
  have hcz := az c hc
  cases x with
  | nil => cases e
  | bar r => injection e with e1 e2; cases e1
  | grp g st r => injection e with e1 e2; cases e1
  | sym s st r =>
    injection e with e1 e2
    subst e1
    cases st with
    | false =>
      have e2 : Pt.tx r = [42, c] := e2
      cases r with
      | nil => cases e2
      | bar r => injection e2 with e3 _; cases e3
      | grp g st r => injection e2 with e3 _; cases e3
      | sym s3 st3 r3 =>
        injection e2 with e5 _
        subst e5
        rcases ok.2.1 with h | h
        · have := az 42 h; omega
        · cases h
    | true =>
      have e2 : 42 :: Pt.tx r = [42, c] := e2
      injection e2 with _ e3
      cases r with
      | nil => cases e3
      | bar r => injection e3 with e4 _; omega
      | grp g st r => injection e3 with e4 _; omega
      | sym s2 st2 r2 =>
        injection e3 with e4 e5
        subst e4
        cases st2 with
        | true => cases e5
        | false =>
          have e5 : Pt.tx r2 = [] := e5
          cases r2 with
          | nil => rfl
          | _ => cases e5
theorem cmp_pre {gs a b : List Nat} : cmpW gs a b ∈ [Str.ofString "equal", Str.ofString "shorter"] ↔ a <+: b := by
  unfold cmpW
  by_cases e : a = b
  · subst e
    rw [if_pos rfl]
    exact ⟨fun _ => List.prefix_refl a, fun _ => List.mem_cons_self ..⟩
  rw [if_neg e]
  have key : a <+: b → a[cpl a b]? = none := fun h => by
    have l := h.length_le
    have : a.length ≤ cpl a b := cpl_max (Nat.le_refl _) l (by rw [List.take_length]; exact List.prefix_iff_eq_take.mp h)
    exact List.getElem?_eq_none this
  cases h1 : a[cpl a b]? with
  | none =>
    have l : a.length ≤ cpl a b := List.getElem?_eq_none_iff.mp h1
    have t := cpl_take (a := a) (b := b) (m := a.length) l
    rw [List.take_length] at t
    exact ⟨fun _ => List.prefix_iff_eq_take.mpr t, fun _ => List.mem_cons_of_mem _ (List.mem_cons_self ..)⟩
  | some c =>
    have no : ¬ a <+: b := fun h => by rw [key h] at h1; cases h1
    cases h2 : b[cpl a b]? with
    | none => exact ⟨fun h => absurd h (by show ¬ Str.ofString "longer" ∈ _; decide +kernel), fun h => absurd h no⟩
    | some d =>
      refine ⟨fun h => absurd h ?_, fun h => absurd h no⟩
      show ¬ (if gs.idxOf c < gs.idxOf d then Str.ofString "less" else Str.ofString "greater") ∈ _
      split <;> decide +kernel
theorem x_eq {gs : List Nat} (az : ∀ c ∈ gs, 97 ≤ c ∧ c ≤ 122) {c : Nat} (hc : c ∈ gs) : xOf gs [c, 46, 42] = .sym c false (.sym 46 true .nil) ∧ xOf gs [46, 42, c] = .sym 46 true (.sym c false .nil) := by
  obtain ⟨o1, e1⟩ := x_spec (gs := gs) (p := [c, 46, 42]) ⟨.sym c false (.sym 46 true .nil), ⟨.inl hc, .inr rfl, True.intro⟩, rfl⟩
  obtain ⟨o2, e2⟩ := x_spec (gs := gs) (p := [46, 42, c]) ⟨.sym 46 true (.sym c false .nil), ⟨.inr rfl, .inl hc, True.intro⟩, rfl⟩
  exact ⟨x_pre az hc o1 e1, x_suf az hc o2 e2⟩
theorem repl_pre {c : Nat} (hc : c ≠ 46) : Txt.replace (S [c, 46, 42]) (S [46, 42]) (S []) = S [c] := by
  refine TL.ext_tl ?_
  show (Txt.replace (S [c, 46, 42]) (S [46, 42]) (S [])).cps.toList = [c]
  rw [PySem.StrLaws.replace_list (by rw [S_len]; decide)]
  show PySem.StrLaws.replL [46, 42] [] [c, 46, 42] = [c]
  rw [PySem.StrLaws.replL_miss (by show ¬ [c, 46] = [46, 42]; exact fun z => hc (by injection z)), PySem.StrLaws.replL_hit (by decide) rfl]
  show c :: PySem.StrLaws.replL [46, 42] [] [] = [c]
  rw [PySem.StrLaws.replL_nil]
theorem repl_suf {c : Nat} (hc : c ≠ 46) : Txt.replace (S [46, 42, c]) (S [46, 42]) (S []) = S [c] := by
  refine TL.ext_tl ?_
  show (Txt.replace (S [46, 42, c]) (S [46, 42]) (S [])).cps.toList = [c]
  rw [PySem.StrLaws.replace_list (by rw [S_len]; decide)]
  show PySem.StrLaws.replL [46, 42] [] [46, 42, c] = [c]
  rw [PySem.StrLaws.replL_hit (by decide) rfl]
  show PySem.StrLaws.replL [46, 42] [] [c] = [c]
  rw [PySem.StrLaws.replL_miss (by show ¬ [c] = [46, 42]; exact fun z => by cases z), PySem.StrLaws.replL_nil]
end Own

namespace Own
open PySem PySem.Spec PyProof.Rows L2 SX
/-! ### a list against an empty one: its items are not looked at -/
def rNeE (K : PySem.W.Frag) : R2 := fun x y H Q => ∃ a b xs, x = .ref a ∧ y = .ref b ∧ SqL K H a xs ∧ SqL K H b [] ∧ Q (.bl (decide (0 < xs.length))) H
theorem op_neE {X : Cx} (hu : X.A.units < cLine) : OpR X (compareOp .NotEq) (rNeE X.K) := by
  intro pins s σ H x y v u Q I rx ry h
  obtain ⟨a, b, xs, rfl, rfl, ha, hb, q⟩ := h
  cases rx
  cases ry
  obtain ⟨l1, v1, ⟨o1, n1, e1, c1, _, d1⟩, _⟩ := I.list ha
  obtain ⟨l2, v2, ⟨o2, n2, e2, c2, _, d2⟩, _⟩ := I.list hb
  have i1 : s.heap.IsList a l1.toArray := ⟨o1, e1, c1, n1, d1⟩
  have i2 : s.heap.IsList b l2.toArray := ⟨o2, e2, c2, n2, d2⟩
  have z2 : l2 = [] := by cases v2; rfl
  have len : xs.length = l1.length := Paired.length v1
  subst z2
  by_cases z : xs.length = 0
  · have z1 : l1 = [] := List.eq_nil_of_length_eq_zero (by omega)
    subst z1
    refine SeqAt.RcNeAt.lists (e := fun _ => true) i1 i2 rfl hu (fun j h1 => absurd h1 (Nat.not_lt_zero _)) _ _ _ _ ?_
    refine ⟨.bl (decide (0 < xs.length)), H, I, ?_, q⟩
    rw [decide_eq_false (by omega)]
    rfl
  · refine SeqAt.RcNeAt.lists_lengths i1 i2 ?_ hu _ _ _ _ ?_
    · show (l1.length != 0) = true
      exact bne_iff_ne.mpr (by omega)
    · refine ⟨.bl (decide (0 < xs.length)), H, I, ?_, q⟩
      rw [decide_eq_true (by omega)]
      rfl
end Own

/-! Pt11: sets of nodes while a text is read -/
namespace Pt
noncomputable def dec (p : Prop) : Bool := @decide p (Classical.propDecidable p)
theorem dec_iff {p : Prop} : dec p = true ↔ p := by unfold dec; exact @decide_eq_true_iff p (Classical.propDecidable p)
/-- a node that stays: it reads something, or it is the last -/
def Stay (N : Net) (m : Nat) : Prop := (∃ l, N.reads[m]? = some l ∧ l ≠ []) ∨ m = 1
noncomputable def all (N : Net) : List Nat := (List.range N.reads.length).filter fun m => dec (Stay N m)
noncomputable def jmp (N : Net) (S : Nat → Prop) : List Nat := (all N).filter fun m => dec (∃ n, S n ∧ JS N n m)
theorem all_mem {N : Net} {m : Nat} : m ∈ all N ↔ m < N.reads.length ∧ Stay N m := by
  unfold all
  rw [List.mem_filter, List.mem_range, dec_iff]
theorem jmp_mem {N : Net} {S : Nat → Prop} {m : Nat} : m ∈ jmp N S ↔ (m < N.reads.length ∧ Stay N m) ∧ ∃ n, S n ∧ JS N n m := by
  unfold jmp
  rw [List.mem_filter, all_mem, dec_iff]
theorem jmp_lt {N : Net} {S : Nat → Prop} : (jmp N S).Pairwise (· < ·) := List.Pairwise.sublist (List.filter_sublist.trans List.filter_sublist) List.pairwise_lt_range
theorem jmp_nd {N : Net} {S : Nat → Prop} : (jmp N S).Nodup := (jmp_lt (N := N) (S := S)).imp fun h e => by omega
theorem jmp_congr {N : Net} {S S' : Nat → Prop} (h : ∀ n, S n ↔ S' n) : jmp N S = jmp N S' := by rw [show S = S' from funext fun n => propext (h n)]
/-- a list in order of the same members -/
theorem jmp_of {N : Net} {S : Nat → Prop} {fl : List Nat} (nd : fl.Nodup) (hm : ∀ m, m ∈ fl ↔ (m < N.reads.length ∧ Stay N m) ∧ ∃ n, S n ∧ JS N n m) {ns : List Int} (h : ns.Perm (fl.map fun (n : Nat) => (n : Int))) (hs : ns.Pairwise (· ≤ ·)) : ns = (jmp N S).map fun (n : Nat) => (n : Int) := by
  have h1 : fl.Perm (jmp N S) := (List.perm_ext_iff_of_nodup nd jmp_nd).mpr fun r => (hm r).trans jmp_mem.symm
  refine List.Perm.eq_of_pairwise (le := fun a b : Int => a ≤ b) (fun a b _ _ x y => Int.le_antisymm x y) hs ?_ (h.trans (h1.map _))
  exact List.pairwise_map.mpr (jmp_lt.imp fun {a b} z => by omega)
/-- what reading the p-th letter leads to -/
def rdS (N : Net) (gs k : List Nat) (p : Nat) : Nat → Prop := fun m => ∃ n, n ∈ k ∧ m = n + 1 ∧ ∃ l c, N.reads[n]? = some l ∧ gs[p]? = some c ∧ c ∈ l
noncomputable def nx (N : Net) (gs k : List Nat) (p : Nat) : List Nat := jmp N (rdS N gs k p)
noncomputable def sta (N : Net) : List Nat := jmp N (fun m => m = 0)
/-- after a word given by the letters' places -/
theorem fold_at {N : Net} {gs : List Nat} (hd : ∀ a ∈ gs, True) : ∀ (n : Nat) (v : List Nat), v.length = n → (∀ a ∈ v, a < gs.length) → ∀ m, m ∈ v.foldl (nx N gs) (sta N) ↔ (m < N.reads.length ∧ Stay N m) ∧ At N (v.map fun a => gs.getD a 0) m v.length
  | 0, v, hv, _, m => by
    have : v = [] := List.eq_nil_of_length_eq_zero hv
    subst this
    show m ∈ sta N ↔ _
    unfold sta
    rw [jmp_mem]
    refine and_congr_right fun _ => ?_
    rw [show ([] : List Nat).length = 0 from rfl, at_zero]
    exact ⟨fun ⟨n, e, h⟩ => e ▸ h, fun h => ⟨0, rfl, h⟩⟩
  | n + 1, v, hv, hb, m => by
    have hne : v ≠ [] := fun e => by subst e; cases hv
    obtain ⟨u, a, rfl⟩ : ∃ u a, v = u ++ [a] := ⟨v.dropLast, v.getLast hne, (List.dropLast_concat_getLast hne).symm⟩
    have hu : u.length = n := by rw [List.length_append] at hv; exact Nat.succ.inj hv
    have ih := fold_at (N := N) hd n u hu fun b m => hb b (List.mem_append_left _ m)
    have ha : a < gs.length := hb a (List.mem_append_right _ (List.mem_singleton.mpr rfl))
    rw [List.foldl_append]
    show m ∈ nx N gs _ a ↔ _
    unfold nx
    rw [jmp_mem, List.length_append]
    refine and_congr_right fun _ => ?_
    rw [show u.length + [a].length = u.length + 1 from rfl, at_succ]
    have ew : (((u ++ [a]).map fun a => gs.getD a 0))[u.length]? = some (gs.getD a 0) := by
      rw [List.map_append, List.getElem?_append_right (by rw [List.length_map]; exact Nat.le_refl _), List.length_map, Nat.sub_self]
      rfl
    have eg : gs[a]? = some (gs.getD a 0) := by rw [List.getD_eq_getElem?_getD, List.getElem?_eq_getElem ha]; rfl
    have tk : ∀ k, At N ((u ++ [a]).map fun a => gs.getD a 0) k u.length ↔ At N (u.map fun a => gs.getD a 0) k u.length := fun k => by
      have e : ∀ j, j < u.length → ((u ++ [a]).map fun a => gs.getD a 0)[j]? = (u.map fun a => gs.getD a 0)[j]? := fun j hj => by
        rw [List.map_append, List.getElem?_append_left (by rw [List.length_map]; exact hj)]
      exact ⟨at_take e, at_take fun j hj => (e j hj).symm⟩
    constructor
    · rintro ⟨q, ⟨k, hk, rfl, l, c, e1, e2, e3⟩, j⟩
      rw [eg] at e2
      cases e2
      exact ⟨k, l, _, (tk k).mpr ((ih k).mp hk).2, e1, ew, e3, j⟩
    · rintro ⟨k, l, c, h, e1, e2, e3, j⟩
      rw [ew] at e2
      cases e2
      refine ⟨k + 1, ⟨k, (ih k).mpr ⟨⟨(List.getElem?_eq_some_iff.mp e1).1, .inl ⟨l, e1, fun z => by rw [z] at e3; cases e3⟩⟩, (tk k).mp h⟩, rfl, l, _, e1, eg, e3⟩, j⟩
theorem fold_told {gs : List Nat} {x : X} (h2 : 2 ≤ (netOf gs x).reads.length) {v : List Nat} (hb : ∀ a ∈ v, a < gs.length) : 1 ∈ v.foldl (nx (netOf gs x) gs) (sta (netOf gs x)) ↔ Told (v.map fun a => gs.getD a 0) x := by
  rw [fold_at (fun _ _ => True.intro) v.length v rfl hb]
  have hw : ∀ c ∈ v.map fun a => gs.getD a 0, c ∈ gs := fun c hc => by
    obtain ⟨a, ha, rfl⟩ := List.mem_map.mp hc
    rw [List.getD_eq_getElem?_getD, List.getElem?_eq_getElem (hb a ha)]
    exact List.getElem_mem _
  rw [← net_told hw x, List.length_map]
  exact ⟨fun h => h.2, fun h => ⟨⟨by omega, .inr rfl⟩, h⟩⟩
/-! ### few sets -/
def subs : List Nat → List (List Nat)
  | [] => [[]]
  | a :: l => subs l ++ (subs l).map (a :: ·)
theorem subs_filter (p : Nat → Bool) : ∀ l : List Nat, l.filter p ∈ subs l
  | [] => List.mem_cons_self ..
  | a :: l => by
    rw [List.filter_cons]
    by_cases h : p a = true
    · rw [if_pos h]
      exact List.mem_append_right _ (List.mem_map.mpr ⟨_, subs_filter p l, rfl⟩)
    · rw [if_neg h]
      exact List.mem_append_left _ (subs_filter p l)
theorem subs_sub : ∀ {l k : List Nat}, k ∈ subs l → k.Sublist l
  | [], k, h => by rw [List.mem_singleton.mp h]; exact List.Sublist.slnil
  | a :: l, k, h => by
    rcases List.mem_append.mp h with h | h
    · exact (subs_sub h).cons a
    · obtain ⟨q, hq, rfl⟩ := List.mem_map.mp h
      exact (subs_sub hq).cons_cons a
end Pt

/-! Pt12: few rooms -/
namespace Pt
noncomputable def rooms (N : Net) : List (List Nat) := subs (all N)
theorem rooms_in {N : Net} {S : Nat → Prop} : jmp N S ∈ rooms N := subs_filter _ _
theorem rooms_of {N : Net} {k : List Nat} (h : k ∈ rooms N) : k.Nodup ∧ k.length ≤ N.reads.length ∧ ∀ m ∈ k, m < N.reads.length := by
  have s := subs_sub h
  refine ⟨s.nodup (List.Pairwise.sublist List.filter_sublist List.nodup_range), ?_, fun m hm => (all_mem.mp (s.subset hm)).1⟩
  have a := s.length_le
  have b : (all N).length ≤ (List.range N.reads.length).length := List.length_filter_le _ _
  rw [List.length_range] at b
  omega
end Pt

/-! Pt13: heads of rows, how deep groups lie, places within the word -/
namespace Pt
def dep : X → Nat
  | .nil => 0
  | .bar r => dep r
  | .sym _ _ r => dep r
  | .grp g _ r => max (dep g + 1) (dep r)
/-- the head of a row -/
inductive Hd where
  | sym (c : Nat)
  | grp (g : X)
def hdT : Hd → List Nat
  | .sym c => [c]
  | .grp g => 40 :: (tx g ++ [41])
/-- what follows a row begins with no sign of a row -/
def Ends (t : List Nat) : Prop := ∀ c r, t = c :: r → c = 124 ∨ c = 41
end Pt

namespace Own
open PySem PySem.Spec PyProof.Rows L2 SX RZ
def topS (i : Nat) : Stmt :=
  PySem.Challenge.pw_ownfill_k44_runs_step_by_step.main.body.getD i (.Pass ⟨0, 0, 0, 0⟩)
section
variable {P : Program} {w : World} {K : PySem.W.Frag} {mg : Str → Option Value} {base : Heap}
abbrev sDraws : Stmt := topS 68
theorem scDraws : FnScope ["_law_script", "_law_state_here", "_law_cell"] ["_law_script"] (defScope sDraws) :=
  ⟨rfl, rfl, rfl, by decide +kernel, rfl, by decide +kernel, by decide +kernel⟩
theorem ok_draws {f : Addr} {fd : FuncData} (F : Fun K "_law_draws" "_law_draws" sDraws f fd)
    (mi : mg "int" = none) (ml : mg "list" = none) :
    FnOk P w K mg base CX0 1 f fd ["_law_script"] (spDraws K) := by
  refine F.ok scDraws (fun vs H Q E h => ?_) (fun cdv A outer s H vs Q E hr h => ?_)
  · obtain ⟨a, ns, rfl, _⟩ := h
    rfl
  · obtain ⟨a, ns, rfl, hS, q⟩ := h
    refine ⟨_, pss_cons (ps_set (i := 1) scDraws.nd rfl (.inl rfl) pe_int)
      (pss_cons (ps_for PassesOwn.never rfl
          (pi_list (pe_slice sl_list (pv 0) po_none (po_some pe_int)))
          (pg_name (i := 2) scDraws.nd rfl (.inl rfl))
          (pss_one (ps_set (i := 1) scDraws.nd rfl (.inl rfl)
            (pe_op op_mod (pe_callTy call_int1 (by rfl) mi (by decide +kernel) (pa_cons
              (pe_op op_add (pe_op op_add (pe_op op_mul (pv 1) pe_int)
                (pe_op op_mod (pe_callTy call_int1 (by rfl) mi (by decide +kernel) (pa_cons (pv 2) pa_nil)) pe_int))
                pe_int) pa_nil)) pe_int))))
      (pss_one (ps_ret (pe_lst (pa_cons (pe_callTy call_list_of (by rfl) ml (by decide +kernel)
          (pa_cons (pe_slice sl_list (pv 0) po_none (po_some pe_int)) pa_nil))
        (pa_cons pe_int (pa_cons pe_int (pa_cons (pv 1) (pa_cons pe_int pa_nil))))))))), ?_⟩
    refine ⟨.ref a, rfl, 63, rfl, a, ns.map V.int, rfl, hS, fun p np => ?_⟩
    have hcut : cutV (ns.map V.int) none (some 63) = (ns.take 63).map V.int := by
      unfold cutV
      rw [HT.sIx_none, show HT.sIx (ns.map V.int).length (ns.map V.int).length (some 63) =
        min 63 (ns.map V.int).length from HT.sIx_nat _ _ 63, List.drop_zero, Nat.sub_zero,
        ← List.map_take]
      congr 1
      rw [List.length_map, List.take_eq_take_iff]
      omega
    rw [hcut]
    have s1 : Same H (upd H p (.lst ((ns.take 63).map V.int))) := fun b o e => by
      rw [upd_ne (ne_of_none e np)]; exact e
    refine ⟨p, rfl, ⟨_, .inl (.inl upd_same)⟩, for_list (K := K) (a := p) (xs := (ns.take 63).map V.int)
      (fun i σ H' => ∃ (st : Int) (v : Option V), σ = [some (.ref a), some (.int st), v] ∧
        H' = upd H p (.lst ((ns.take 63).map V.int)))
      ⟨3833, none, rfl, rfl⟩ (fun i σ H' _ ⟨_, _, _, e⟩ => by rw [e]; exact .inl (.inl upd_same)) ?_ ?_⟩
    · rintro i y σ H' hi ⟨st, v, rfl, rfl⟩
      obtain ⟨u, rfl⟩ : ∃ u, y = V.int u := by
        rw [List.getElem?_map] at hi
        cases e : (ns.take 63)[i]? with
        | none => rw [e] at hi; cases hi
        | some u => rw [e] at hi; exact ⟨u, (Option.some.inj hi).symm⟩
      refine ⟨_, rfl, _, _, rfl, rfl, .inr ⟨by decide, by decide⟩, _, rfl, .inl ⟨_, rfl, _, _, rfl, rfl,
        (by show (0 : Int) < 2147483587; decide), _, _, rfl, rfl, _, _, rfl, rfl, .inl ⟨_, rfl, _, _, rfl, rfl,
        (by show (0 : Int) < 2147483647; decide), ?_⟩⟩⟩
      exact ⟨_, _, rfl, rfl⟩
    · rintro σ H' ⟨st, v, rfl, rfl⟩
      refine ⟨.ref a, rfl, 63, rfl, a, ns.map V.int, rfl, s1.seq hS, fun p2 np2 => ?_⟩
      rw [hcut]
      refine ⟨p2, _, rfl, .inl (.inl (.inl upd_same)), fun l nl => ?_⟩
      refine ⟨.int st, rfl, (by show 5 ≤ sizeLine; decide), fun r nr => ?_⟩
      have s2 := fun b o (e : H b = some o) => s1 b o e
      refine q _ r (fun b o e => ?_) ?_ ?_
      · have e1 := s1 b o e
        have e2 : (upd (upd H p (.lst ((ns.take 63).map V.int))) p2 (.lst ((ns.take 63).map V.int))) b = some o := by
          rw [upd_ne (ne_of_none e1 np2)]; exact e1
        have e3 : (upd (upd (upd H p (.lst ((ns.take 63).map V.int))) p2 (.lst ((ns.take 63).map V.int))) l
            (.lst ((ns.take 63).map V.int))) b = some o := by
          rw [upd_ne (ne_of_none e2 nl)]; exact e2
        rw [upd_ne (ne_of_none e3 nr)]
        exact e3
      · cases e : H r with
        | none => rfl
        | some o =>
          have e1 := s1 r o e
          have e2 : (upd (upd H p (.lst ((ns.take 63).map V.int))) p2 (.lst ((ns.take 63).map V.int))) r = some o := by
            rw [upd_ne (ne_of_none e1 np2)]; exact e1
          rw [upd_ne (ne_of_none e2 nl)] at nr
          rw [e2] at nr
          cases nr
      · refine ⟨l, ns.take 63, 0, 0, st, 0, Int.le_refl 0, upd_same, ?_⟩
        have nlr : l ≠ r := fun e => by
          rw [← e, upd_same] at nr
          cases nr
        rw [upd_ne nlr, upd_same]
abbrev sDraw : Stmt := topS 69
theorem scDraw : FnScope ["_law_rng", "_law_sides", "_law_cell", "_law_digit", "_law_seed"]
    ["_law_rng", "_law_sides"] (defScope sDraw) :=
  ⟨rfl, rfl, rfl, by decide +kernel, rfl, by decide +kernel, by decide +kernel⟩
theorem ok_draw {f : Addr} {fd : FuncData} (F : Fun K "_law_draw" "_law_draw" sDraw f fd)
    (mi : mg "int" = none) (ml : mg "len" = none) :
    FnOk P w K mg base CX0 1 f fd ["_law_rng", "_law_sides"] spDraw := by
  refine F.ok scDraw (fun vs H Q E h => ?_) (fun cdv A outer s H vs Q E hr h => ?_)
  · obtain ⟨r, n, rfl, _⟩ := h
    rfl
  · obtain ⟨r, n, rfl, hn, hn2, ⟨l, ns, i, b, z, c, R⟩, q⟩ := h
    have R0 : RngL H r l := ⟨ns, i, b, z, c, R⟩
    refine ⟨_, pss_cons (ps_asg (pe_op op_add (pe_ix ix_list (pv 0) pe_int (fun _ _ => rfl)) pe_int)
        (pg_sub (pv 0) pe_int set_list))
      (C8.pss_cut (ps_if (PW.pt (pw_and (pt_cmpR op_eq (pe_ix ix_list (pv 0) pe_int (fun _ _ => rfl)) pe_int (nomark _))
          (pw_and1 (pt_cmpR op_lt (pe_ix ix_list (pv 0) pe_int (fun _ _ => rfl))
            (pe_callB call_len_seq (by rfl) ml PySem.boot_len (pa_cons (pe_ix ix_list (pv 0) pe_int (fun _ _ => rfl)) pa_nil))
            (nomark _)))))
        (pss_cons (ps_set (i := 2) scDraw.nd rfl (.inl rfl)
            (pe_ix ix_list (pe_ix ix_list (pv 0) pe_int (fun _ _ => rfl)) (pe_ix ix_list (pv 0) pe_int (fun _ _ => rfl)) (fun _ _ => rfl)))
        (pss_cons (ps_asg (pe_op op_add (pe_ix ix_list (pv 0) pe_int (fun _ _ => rfl)) pe_int) (pg_sub (pv 0) pe_int set_list))
        (pss_one (ps_if (pt_cmpR op_ge (pv 2) (pe_op op_pow pe_int pe_int) (nomark _))
          (pss_one (ps_asg (pv 2) (pg_sub (pv 0) pe_int set_list)))
          (pss_one (ps_asg (pe_op op_mod (pe_callTy call_int1 (by rfl) mi (by decide +kernel) (pa_cons
              (pe_op op_add (pe_op op_add (pe_op op_mul (pe_ix ix_list (pv 0) pe_int (fun _ _ => rfl)) pe_int)
                (pe_op op_mul (pe_op op_mod (pe_callTy call_int1 (by rfl) mi (by decide +kernel) (pa_cons (pv 2) pa_nil)) pe_int) pe_int))
                pe_int) pa_nil)) pe_int) (pg_sub (pv 0) pe_int set_list)))))))
        pss_nil)
      (pss_cons (ps_if (pt_cmpR op_gt (pe_ix ix_list (pv 0) pe_int (fun _ _ => rfl)) pe_int (nomark _))
        (pss_cons (ps_set (i := 3) scDraw.nd rfl (.inl rfl) (pe_op op_mod (pe_callTy call_int1 (by rfl) mi (by decide +kernel)
            (pa_cons (pe_ix ix_list (pv 0) pe_int (fun _ _ => rfl)) pa_nil)) (pv 1)))
        (pss_cons (ps_asg (pe_op op_fdiv (pe_ix ix_list (pv 0) pe_int (fun _ _ => rfl)) (pv 1)) (pg_sub (pv 0) pe_int set_list))
        (pss_one (ps_ret (pv 3))))) pss_nil)
      (pss_cons (ps_set (i := 4) scDraw.nd rfl (.inl rfl) (pe_ix ix_list (pv 0) pe_int (fun _ _ => rfl)))
      (pss_cons (ps_asg (pe_op op_mod (pe_callTy call_int1 (by rfl) mi (by decide +kernel) (pa_cons
          (pe_op op_add (pe_op op_add (pe_op op_add (pe_op op_mul (pv 4) pe_int)
            (pe_op op_mul (pe_op op_fdiv (pv 4) pe_int) pe_int))
            (pe_op op_mul (pe_ix ix_list (pv 0) pe_int (fun _ _ => rfl)) pe_int)) pe_int) pa_nil)) pe_int)
          (pg_sub (pv 0) pe_int set_list))
      (pss_one (ps_ret (pe_op op_mod (pe_callTy call_int1 (by rfl) mi (by decide +kernel) (pa_cons
          (pe_op op_add (pe_op op_fdiv (pe_ix ix_list (pv 0) pe_int (fun _ _ => rfl)) pe_int)
            (pe_op op_mul (pe_op op_mod (pe_callTy call_int1 (by rfl) mi (by decide +kernel)
              (pa_cons (pe_ix ix_list (pv 0) pe_int (fun _ _ => rfl)) pa_nil)) pe_int) pe_int)) pa_nil)) (pv 1)))))))), ?_⟩
    have at0 : ∀ {l : Addr} {i b z c : Int}, atI [V.ref l, .int i, .int b, .int z, .int c] 0 = some (.ref l) := atI_nat (j := 0) rfl
    have at1 : ∀ {l : Addr} {i b z c : Int}, atI [V.ref l, .int i, .int b, .int z, .int c] 1 = some (.int i) := atI_nat (j := 1) rfl
    have at2 : ∀ {l : Addr} {i b z c : Int}, atI [V.ref l, .int i, .int b, .int z, .int c] 2 = some (.int b) := atI_nat (j := 2) rfl
    have at3 : ∀ {l : Addr} {i b z c : Int}, atI [V.ref l, .int i, .int b, .int z, .int c] 3 = some (.int z) := atI_nat (j := 3) rfl
    have at4 : ∀ {l : Addr} {i b z c : Int}, atI [V.ref l, .int i, .int b, .int z, .int c] 4 = some (.int c) := atI_nat (j := 4) rfl
    -- rng[4] += 1
    refine ⟨_, rfl, r, _, 4, _, rfl, rfl, SqL.of R.2.1, at4, _, _, rfl, rfl, _, rfl, r, _, 4, 4, rfl, rfl, R.2.1, rfl, ?_⟩
    have R1 : RngV (upd H r (.lst [.ref l, .int i, .int b, .int z, .int (c + 1)])) r l ns i b z (c + 1) := R.put R.1
    have g1 : ∀ x o, x ≠ r → H x = some o → upd H r (.lst [.ref l, .int i, .int b, .int z, .int (c + 1)]) x = some o :=
      fun x o nx e => by rw [upd_ne nx]; exact e
    refine ⟨fun σ H' => ∃ v2 v3 v4, σ = [some (.ref r), some (.int n), v2, v3, v4] ∧
      (∀ x o, x ≠ r → H x = some o → H' x = some o) ∧ RngL H' r l, ?_, ?_⟩
    · -- the script's next cell
      refine ⟨_, rfl, r, _, 2, _, rfl, rfl, SqL.of R1.2.1, at2, rfl, _, rfl, ?_⟩
      refine ite2 (fun _ => ?_) (fun _ => iteF ⟨none, none, none, rfl, g1, _, _, _, _, _, R1⟩)
      refine ⟨_, rfl, r, _, 1, _, rfl, rfl, SqL.of R1.2.1, at1, _, rfl, r, _, 0, _, rfl, rfl, SqL.of R1.2.1, at0,
        l, _, rfl, .inl (SqL.of R1.2.2), _, _, rfl, rfl, _, rfl, ?_⟩
      refine ite2 (fun hlt => ?_) (fun _ => ⟨none, none, none, rfl, g1, _, _, _, _, _, R1⟩)
      have hlt2 : i < ((ns.map V.int).length : Int) := of_decide_eq_true hlt
      rw [List.length_map] at hlt2
      obtain ⟨j, rfl⟩ := Int.eq_ofNat_of_zero_le R.1
      have hj : j < ns.length := by omega
      have gj : (ns.map V.int)[j]? = some (.int ns[j]) := by
        rw [List.getElem?_map, List.getElem?_eq_getElem hj]; rfl
      refine ⟨_, rfl, r, _, 0, _, rfl, rfl, SqL.of R1.2.1, at0, _, rfl, r, _, 1, _, rfl, rfl, SqL.of R1.2.1, at1,
        l, _, _, _, rfl, rfl, SqL.of R1.2.2, atI_nat gj, ?_⟩
      refine ⟨_, rfl, r, _, 1, _, rfl, rfl, SqL.of R1.2.1, at1, _, _, rfl, rfl, _, rfl, r, _, 1, 1, rfl, rfl, R1.2.1, rfl, ?_⟩
      have R2 := R1.put (i' := (j : Int) + 1) (b' := b) (s' := z) (c' := c + 1) (by omega)
      have g2 : ∀ x o, x ≠ r → H x = some o →
          upd (upd H r (.lst [.ref l, .int (j : Int), .int b, .int z, .int (c + 1)])) r
            (.lst [.ref l, .int ((j : Int) + 1), .int b, .int z, .int (c + 1)]) x = some o :=
        fun x o nx e => by rw [upd_ne nx]; exact g1 x o nx e
      refine ⟨_, rfl, _, _, rfl, rfl, ⟨by decide, by decide, by decide⟩, _, _, rfl, rfl, _, rfl, ?_⟩
      refine ite2 (fun _ => ?_) (fun _ => ?_)
      · refine ⟨_, rfl, _, rfl, r, _, 2, 2, rfl, rfl, R2.2.1, rfl, ?_⟩
        exact ⟨_, none, none, rfl, fun x o nx e => by rw [upd_ne nx]; exact g2 x o nx e, _, _, _, _, _, R2.put (by omega)⟩
      · refine ⟨_, rfl, r, _, 3, _, rfl, rfl, SqL.of R2.2.1, at3, _, _, rfl, rfl, .inr ⟨by decide, by decide⟩, _, rfl,
          .inl ⟨_, rfl, _, _, rfl, rfl, (by show (0 : Int) < 2147483579; decide), _, _, rfl, rfl, .inr ⟨by decide, by decide⟩,
          _, _, rfl, rfl, _, _, rfl, rfl, .inl ⟨_, rfl, _, _, rfl, rfl, (by show (0 : Int) < 2147483647; decide),
          _, rfl, r, _, 3, 3, rfl, rfl, R2.2.1, rfl, ?_⟩⟩⟩
        exact ⟨_, none, none, rfl, fun x o nx e => by rw [upd_ne nx]; exact g2 x o nx e, _, _, _, _, _, R2.put (by omega)⟩
    · rintro σ H' ⟨v2, v3, v4, rfl, g, ns, i, b, z, c, R⟩
      refine ⟨_, rfl, r, _, 2, _, rfl, rfl, SqL.of R.2.1, at2, _, _, rfl, rfl, _, rfl, ?_⟩
      refine ite2 (fun hb => ?_) (fun _ => ?_)
      · refine ⟨_, rfl, r, _, 2, _, rfl, rfl, SqL.of R.2.1, at2, .inl ⟨_, rfl, _, rfl, _, _, rfl, rfl, hn, ?_⟩⟩
        refine ⟨_, rfl, r, _, 2, _, rfl, rfl, SqL.of R.2.1, at2, _, rfl, _, _, rfl, rfl, ⟨hn, by omega⟩, _, rfl, r, _, 2, 2, rfl, rfl, R.2.1, rfl, ?_⟩
        refine ⟨_, rfl, q _ _ ⟨fun x o nx e => by rw [upd_ne nx]; exact g x o nx e, l, R0, _, _, _, _, _, R.put R.1⟩ ?_ ?_⟩
        · exact Int.emod_nonneg _ (by omega)
        · exact Int.emod_lt_of_pos _ hn
      · refine ⟨_, rfl, r, _, 3, _, rfl, rfl, SqL.of R.2.1, at3, ?_⟩
        refine ⟨_, rfl, _, _, rfl, rfl, .inr ⟨by decide, by decide⟩, _, rfl, _, _, rfl, rfl, ⟨by decide, by decide⟩,
          _, _, rfl, rfl, .inr ⟨by decide, by decide⟩, _, _, rfl, rfl, _, rfl, r, _, 4, _, rfl, rfl, SqL.of R.2.1, at4,
          _, _, rfl, rfl, .inr ⟨by decide, by decide⟩, _, _, rfl, rfl, _, _, rfl, rfl, .inl ⟨_, rfl, _, _, rfl, rfl,
          (by show (0 : Int) < 2147483647; decide), _, rfl, r, _, 3, 3, rfl, rfl, R.2.1, rfl, ?_⟩⟩
        have R2 := fun z' => R.put (i' := i) (b' := b) (s' := z') (c' := c) R.1
        refine ⟨_, rfl, r, _, 3, _, rfl, rfl, SqL.of (R2 _).2.1, at3, _, _, rfl, rfl, ⟨by decide, by decide⟩, _, rfl, r, _, 3, _, rfl, rfl,
          SqL.of (R2 _).2.1, at3, .inl ⟨_, rfl, _, _, rfl, rfl, (by show (0 : Int) < 7907; decide), _, _, rfl, rfl, .inr ⟨by decide, by decide⟩,
          _, _, rfl, rfl, .inl ⟨_, rfl, _, rfl, _, _, rfl, rfl, hn, ?_⟩⟩⟩
        refine q _ _ ⟨fun x o nx e => by rw [upd_ne nx]; exact g x o nx e, l, R0, _, _, _, _, _, R2 _⟩ ?_ ?_
        · exact Int.emod_nonneg _ (by omega)
        · exact Int.emod_lt_of_pos _ hn
abbrev sPick : Stmt := topS 70
theorem scPick : FnScope ["_law_rng", "_law_things"] ["_law_rng", "_law_things"] (defScope sPick) :=
  ⟨rfl, rfl, rfl, by decide +kernel, rfl, by decide +kernel, by decide +kernel⟩
theorem ok_pick {f fD : Addr} {fd fdD : FuncData} (F : Fun K "_law_pick" "_law_pick" sPick f fd)
    (FD : Fun K "_law_draw" "_law_draw" sDraw fD fdD) (bD : Binds K fdD ["_law_rng", "_law_sides"] [])
    (gD : mg "_law_draw" = some (.ref fD)) (mi : mg "int" = none) (ml : mg "len" = none) :
    FnOk P w K mg base CX0 2 f fd ["_law_rng", "_law_things"] (spPick K) := by
  have GD : FnOk P w K mg base CX0 1 fD fdD ["_law_rng", "_law_sides"] spDraw := ok_draw FD mi ml
  refine F.ok scPick (fun vs H Q E h => ?_) (fun cdv A outer s H vs Q E hr h => ?_)
  · obtain ⟨r, x, rfl, _⟩ := h
    rfl
  · obtain ⟨r, x, rfl, R, h⟩ := h
    refine ⟨_, pss_one (ps_ret (pe_ix ix_seq (pv 1) (pe_call GD hr (by rfl) gD FD.kp bD .nil pass0
      (pa_cons (pv 0) (pa_cons (pe_callB call_len (by rfl) ml PySem.boot_len (pa_cons (pv 1) pa_nil)) pa_nil)))
      (fun _ _ => rfl))), ?_⟩
    rcases h with ⟨a, xs, rfl, nar, hS, h0, h1, q⟩ | ⟨cs, rfl, h0, h1, q⟩
    · refine ⟨_, rfl, _, rfl, _, rfl, _, xs.length, rfl, .inl ⟨_, hS, rfl⟩, r, _, rfl, by omega, by omega, R, fun H' k g k0 k1 => ?_⟩
      obtain ⟨j, rfl⟩ := Int.eq_ofNat_of_zero_le k0
      have hj : j < xs.length := by omega
      exact .inl ⟨a, xs, _, xs[j], rfl, rfl, g.seq nar hS, atI_nat (List.getElem?_eq_getElem hj), q _ _ g (List.getElem_mem hj)⟩
    · refine ⟨_, rfl, _, rfl, _, rfl, _, cs.length, rfl, ⟨by rw [S_len]; exact small h1, by rw [S_len]⟩, r, _, rfl, by omega, by omega, R, fun H' k g k0 k1 => ?_⟩
      obtain ⟨j, rfl⟩ := Int.eq_ofNat_of_zero_le k0
      have hj : j < cs.length := by omega
      exact .inr (.inr ⟨_, _, cs[j], rfl, rfl, by rw [S_len]; exact small h1, atI_nat (List.getElem?_eq_getElem hj), q _ _ g (List.getElem_mem hj)⟩)
abbrev sLetters : Stmt := topS 72
theorem scLetters : FnScope ["_law_rng", "_law_most", "_law_size", "_law_first", "_law_step_here", "_law_k"]
    ["_law_rng", "_law_most"] (defScope sLetters) :=
  ⟨rfl, rfl, rfl, by decide +kernel, rfl, by decide +kernel, by decide +kernel⟩
theorem ok_letters {f fD fP : Addr} {fd fdD fdP : FuncData} (F : Fun K "_law_letters" "_law_letters" sLetters f fd)
    (FD : Fun K "_law_draw" "_law_draw" sDraw fD fdD) (bD : Binds K fdD ["_law_rng", "_law_sides"] [])
    (gD : mg "_law_draw" = some (.ref fD))
    (FP : Fun K "_law_pick" "_law_pick" sPick fP fdP) (bP : Binds K fdP ["_law_rng", "_law_things"] [])
    (gP : mg "_law_pick" = some (.ref fP)) (mi : mg "int" = none) (ml : mg "len" = none)
    (mm : mg "min" = none) (mr : mg "range" = none) :
    FnOk P w K mg base CX0 3 f fd ["_law_rng", "_law_most"] spLetters := by
  have GD : FnOk P w K mg base CX0 1 fD fdD ["_law_rng", "_law_sides"] spDraw := ok_draw FD mi ml
  have GP : FnOk P w K mg base CX0 2 fP fdP ["_law_rng", "_law_things"] (spPick K) := ok_pick FP FD bD gD mi ml
  refine F.ok scLetters (fun vs H Q E h => ?_) (fun cdv A outer s H vs Q E hr h => ?_)
  · obtain ⟨r, m, rfl, _⟩ := h
    rfl
  · obtain ⟨r, m, rfl, hm, R, q⟩ := h
    have hr1 : Room 1 _ := hr.mono (by decide)
    refine ⟨_, pss_cons (ps_set (i := 2) scLetters.nd rfl (.inl rfl) (pe_callB (call_min2 rfl) (by rfl) mm (by decide +kernel)
        (pa_cons (pv 1) (pa_cons (pe_call GP hr (by rfl) gP FP.kp bP .nil pass0 (pa_cons (pv 0)
          (pa_cons (pe_lst (pa_cons pe_int (pa_cons pe_int (pa_cons pe_int (pa_cons pe_int (pa_cons pe_int (pa_cons pe_int pa_nil))))))) pa_nil))) pa_nil))))
      (pss_cons (ps_asg (pe_tup (pa_cons (pe_call GD hr1 (by rfl) gD FD.kp bD .nil pass0 (pa_cons (pv 0) (pa_cons pe_int pa_nil)))
          (pa_cons (pe_call GP hr (by rfl) gP FP.kp bP .nil pass0 (pa_cons (pv 0)
          (pa_cons (pe_lst (pa_cons pe_int (pa_cons pe_int (pa_cons pe_int (pa_cons pe_int (pa_cons pe_int pa_nil)))))) pa_nil))) pa_nil)))
          (pg_tup rfl (pgs_cons (pg_name (i := 3) scLetters.nd rfl (.inr rfl)) (pgs_cons (pg_name (i := 4) scLetters.nd rfl (.inr rfl)) pgs_nil))))
      (pss_one (ps_ret (pe_join pe_str (pe_lc (own := [("_law_k", 5)]) (g := gName 5) (tt := tYes) rfl scLetters.nd
        (pi_range1 rfl mr (pa_cons (pv 2) pa_nil))
        (blkOk_by (N := ["_law_rng", "_law_most", "_law_size", "_law_first", "_law_step_here", "_law_k"]) (sc := defScope sLetters) (by decide +kernel))
        (fun _ _ _ _ _ => pg_name (i := 5) scLetters.nd rfl (Or.inl rfl)) (fun _ _ _ _ _ => pts_nil)
        (fun _ _ _ _ _ => pe_ix ix_str pe_str (pe_op op_mod (pe_callTy call_int1 (by rfl) mi (by decide +kernel)
          (pa_cons (pe_op op_add (pv 3) (pe_op op_mul (pv 4) (pv 5))) pa_nil)) pe_int) (fun _ _ => rfl))))))), ?_⟩
    obtain ⟨xr, er⟩ := R.ex
    refine ⟨_, rfl, _, rfl, (by show 6 ≤ sizeLine; decide), fun l nl => ?_⟩
    refine ⟨r, .ref l, rfl, R.same (same_new nl), .inl ⟨l, _, rfl, (ne_of_none er nl).symm, .inl (.inl upd_same), by decide, by decide, fun H1 v g1 hv => ?_⟩⟩
    obtain ⟨j, rfl, hj⟩ : ∃ j : Nat, v = .int j ∧ j ∈ [2, 3, 4] := by
      simp only [List.mem_cons, List.not_mem_nil, or_false] at hv
      rcases hv with e | e | e | e | e | e <;>
        first | exact ⟨2, e, by decide⟩ | exact ⟨3, e, by decide⟩ | exact ⟨4, e, by decide⟩
    have G1 : Go r H H1 := Go.after R (same_new nl) g1
    obtain ⟨n, hn1, hn2, hn3⟩ : ∃ n : Nat, (if (j : Int) < m then (j : Int) else m) = (n : Int) ∧ n ∈ [2, 3, 4] ∧ (n : Int) ≤ m := by
      have hj2 : 2 ≤ j ∧ j ≤ 4 := by
        simp only [List.mem_cons, List.not_mem_nil, or_false] at hj
        omega
      by_cases h : (j : Int) < m
      · rw [if_pos h]
        exact ⟨j, rfl, hj, by omega⟩
      · rw [if_neg h]
        refine ⟨m.toNat, by omega, ?_, by omega⟩
        simp only [List.mem_cons, List.not_mem_nil, or_false]
        omega
    refine ⟨_, _, rfl, ?_⟩
    rw [hn1]
    refine ⟨_, rfl, r, 26, rfl, by decide, by decide, g1.rng, fun H2 f g2 f0 f1 => ?_⟩
    obtain ⟨f, rfl⟩ := Int.eq_ofNat_of_zero_le f0
    obtain ⟨x2, e2⟩ := g2.rng.ex
    refine ⟨_, rfl, (by show 5 ≤ sizeLine; decide), fun l2 nl2 => ?_⟩
    refine ⟨r, .ref l2, rfl, g2.rng.same (same_new nl2), .inl ⟨l2, _, rfl, (ne_of_none e2 nl2).symm, .inl (.inl upd_same), by decide, by decide, fun H3 v g3 hv => ?_⟩⟩
    obtain ⟨t, rfl, ht⟩ : ∃ j : Nat, v = .int j ∧ j ∈ [1, 3, 5, 25, 7] := by
      simp only [List.mem_cons, List.not_mem_nil, or_false] at hv
      rcases hv with e | e | e | e | e <;>
        first | exact ⟨1, e, by decide⟩ | exact ⟨3, e, by decide⟩ | exact ⟨5, e, by decide⟩ | exact ⟨25, e, by decide⟩ | exact ⟨7, e, by decide⟩
    have G3 : Go r H H3 := (G1.trans g2).trans (Go.after g2.rng (same_new nl2) g3)
    refine ⟨(by show 2 ≤ sizeLine; decide), fun T nT => ?_⟩
    refine ⟨T, _, rfl, .inl (.inl upd_same), rfl, _, _, rfl, _, _, rfl, rfl, ?_⟩
    have G4 := G3.same (same_new (o := .tup [.int (f : Int), .int (t : Int)]) nT)
    have hn4 : n ≤ 4 := by
      simp only [List.mem_cons, List.not_mem_nil, or_false] at hn2
      omega
    refine ⟨⟨_, rfl⟩, _, rfl, _, rfl, by omega, by omega, fun D nD => ?_⟩
    have t25 : t ≤ 25 := by
      simp only [List.mem_cons, List.not_mem_nil, or_false] at ht
      omega
    refine lc_range (lo := 0) (n := (n : Int).toNat)
      (fun i H' => H' = upd (upd H3 T (.tup [.int (f : Int), .int (t : Int)])) D (.lst ((lets f t i).map fun c => V.str (S [c])))) rfl ?_ ?_
    · rintro i H' hi rfl
      have ei : ((f : Int) + (t : Int) * (0 + (i : Int))) % 26 = (((f + t * i) % 26 : Nat) : Int) := by
        rw [Int.zero_add, ← Int.natCast_mul]
        generalize t * i = u
        omega
      have ec : (List.range' 97 26)[(f + t * i) % 26]? = some (97 + (f + t * i) % 26) := by
        rw [List.getElem?_range' (by omega)]
        simp
      refine ⟨rfl, _, rfl, _, rfl, _, rfl, _, _, rfl, rfl, .inl ⟨by omega, by omega⟩, _, _, rfl, rfl, .inl ⟨_, rfl, _, _, rfl, rfl,
        (by show (0 : Int) < 26; decide), ?_⟩⟩
      refine ⟨_, _, 97 + (f + t * i) % 26, rfl, rfl, by decide, ?_, _, upd_same, ?_, ?_⟩
      · show atI (Str.ofString "abcdefghijklmnopqrstuvwxyz").cps.toList (((f : Int) + (t : Int) * (0 + (i : Int))) % 26) = _
        rw [az, ei]
        exact atI_nat ec
      · rw [List.length_map]
        unfold lets
        rw [List.length_map, List.length_range]
        exact small1000 (by omega)
      · rw [upd_upd]
        unfold lets
        rw [List.range_succ, List.map_append, List.map_append]
        rfl
    · rintro H' rfl
      have nDr : D ≠ r := by
        obtain ⟨x4, e4⟩ := G4.rng.ex
        exact (ne_of_none e4 nD).symm
      refine ⟨_, D, (lets f t n).map (fun c => S [c]), rfl, rfl, .inl (.inl (.inl ?_)), ?_, ?_⟩
      · rw [upd_same, List.map_map]
        rfl
      · rw [one_len]
        have : (lets f t n).length = n := by unfold lets; rw [List.length_map, List.length_range]
        rw [this]
        show n + _ * 0 ≤ _
        omega
      · rw [joinC]
        refine q _ _ (G4.same (same_new nD)) (lets_good (by omega) ht hn2) ?_
        have : (lets f t n).length = n := by unfold lets; rw [List.length_map, List.length_range]
        omega
abbrev sTurn : Stmt := topS 73
theorem scTurn : FnScope ["_law_rng", "_law_signs", "_law_left", "_law_found", "_law_k", "_law_at"]
    ["_law_rng", "_law_signs"] (defScope sTurn) :=
  ⟨rfl, rfl, rfl, by decide +kernel, rfl, by decide +kernel, by decide +kernel⟩
theorem ok_turn {f fD : Addr} {fd fdD : FuncData} (F : Fun K "_law_turn" "_law_turn" sTurn f fd)
    (FD : Fun K "_law_draw" "_law_draw" sDraw fD fdD) (bD : Binds K fdD ["_law_rng", "_law_sides"] [])
    (gD : mg "_law_draw" = some (.ref fD)) (mi : mg "int" = none) (ml : mg "len" = none) (mr : mg "range" = none) :
    FnOk P w K mg base CX0 2 f fd ["_law_rng", "_law_signs"] spTurn := by
  have GD : FnOk P w K mg base CX0 1 fD fdD ["_law_rng", "_law_sides"] spDraw := ok_draw FD mi ml
  refine F.ok scTurn (fun vs H Q E h => ?_) (fun cdv A outer s H vs Q E hr h => ?_)
  · obtain ⟨r, x, rfl, _⟩ := h
    rfl
  · obtain ⟨r, gs, rfl, hl, R, q⟩ := h
    refine ⟨_, pss_cons (ps_if (pt_cmpR op_eq (pe_call GD hr (by rfl) gD FD.kp bD .nil pass0 (pa_cons (pv 0) (pa_cons pe_int pa_nil))) pe_int (nomark _))
        (pss_one (ps_ret (pv 1))) pss_nil)
      (pss_cons (ps_par (i := 2) (j := 3) (by rfl) scTurn.nd rfl rfl (by decide) rfl rfl (pa_cons (pv 1) (pa_cons pe_str pa_nil)) (by rfl))
      (pss_cons (ps_for PassesOwn.never rfl
          (pi_range1 rfl mr (pa_cons (pe_callB call_len_str (by rfl) ml PySem.boot_len (pa_cons (pv 1) pa_nil)) pa_nil))
          (pg_name (i := 4) scTurn.nd rfl (.inl rfl))
          (pss_cons (ps_set (i := 5) scTurn.nd rfl (.inl rfl) (pe_call GD hr (by rfl) gD FD.kp bD .nil pass0
              (pa_cons (pv 0) (pa_cons (pe_callB call_len_str (by rfl) ml PySem.boot_len (pa_cons (pv 2) pa_nil)) pa_nil))))
          (pss_one (ps_par (i := 3) (j := 2) (by rfl) scTurn.nd rfl rfl (by decide) rfl rfl
            (pa_cons (pe_op op_add_str (pv 3) (pe_ix ix_str (pv 2) (pv 5) (fun _ _ => rfl)))
            (pa_cons (pe_op op_add_str (pe_slice C8.sl_txt (pv 2) po_none (po_some (pv 5)))
              (pe_slice C8.sl_txt (pv 2) (po_some (pe_op op_add (pv 5) pe_int)) po_none)) pa_nil)) (by rfl)))))
      (pss_one (ps_ret (pv 3))))), ?_⟩
    refine ⟨_, rfl, r, 3, rfl, by decide, by decide, R, fun H1 k g1 k0 k1 => ⟨rfl, _, rfl, ?_⟩⟩
    refine ite2 (fun _ => ⟨_, rfl, q _ _ g1 (List.Perm.refl _)⟩) (fun _ => ?_)
    refine ⟨_, rfl, _, _, rfl, ?_⟩
    have hz : (S gs).length ≤ sizeLine := by rw [S_len]; exact small hl
    refine ⟨_, rfl, _, rfl, hz, _, rfl, by omega, by rw [S_len]; omega, ?_⟩
    refine for_range (lo := 0) (n := ((S gs).length : Int).toNat)
      (fun i σ H' => ∃ (ls fs : List Nat) (v4 v5 : Option V), σ = [some (.ref r), some (.str (S gs)), some (.str (S ls)), some (.str (S fs)), v4, v5] ∧
        Go r H H' ∧ (fs ++ ls).Perm gs ∧ ls.length + i = gs.length) ⟨gs, [], none, none, rfl, g1, List.Perm.refl _, rfl⟩ ?_ ?_
    · rintro i σ H' hi ⟨ls, fs, v4, v5, rfl, g, hp, hli⟩
      rw [S_len] at hi
      have hls : ls.length ≤ 1000 := by omega
      have hfs : fs.length ≤ 1000 := by
        have e := hp.length_eq
        rw [List.length_append] at e
        omega
      refine ⟨_, rfl, _, rfl, _, rfl, by rw [S_len]; exact small hls, r, _, rfl, by rw [S_len]; omega, by rw [S_len]; omega, g.rng, fun H2 k g2 k0 k1 => ?_⟩
      rw [S_len] at k1
      obtain ⟨j, rfl⟩ := Int.eq_ofNat_of_zero_le k0
      have hj : j < ls.length := by omega
      have e1 : Txt.slice (S ls) none (some (j : Int)) = S (ls.take j) := slice_to (by omega)
      have e2 : Txt.slice (S ls) (some ((j : Int) + 1)) none = S (ls.drop (j + 1)) := slice_from (a := ls) (i := (j : Int) + 1) (by omega)
      refine ⟨_, rfl, _, rfl, _, rfl, _, _, ls[j], rfl, rfl, by rw [S_len]; exact small hls, atI_nat (List.getElem?_eq_getElem hj), _, _, rfl, rfl, ?_, ?_⟩
      · rw [S_len]
        show fs.length + 1 ≤ sizeLine
        exact small1000 hfs
      refine ⟨_, rfl, _, rfl, _, rfl, _, rfl, by rw [S_len]; exact small hls, _, rfl, _, rfl, _, _, rfl, rfl, _, rfl, _, rfl, by rw [S_len]; exact small hls, _, _, rfl, rfl, ?_, ?_⟩
      · rw [e1, e2, S_len, S_len, List.length_take, List.length_drop]
        exact Nat.le_trans (by omega) (small hls)
      refine ⟨_, _, rfl, ls.take j ++ ls.drop (j + 1), fs ++ [ls[j]], some (.int (0 + (i : Int))), some (.int (j : Int)), ?_, g.trans g2, ?_, ?_⟩
      · rw [e1, e2, S_cat, S_cat]
        rfl
      · refine List.Perm.trans ?_ hp
        have e3 : ls = ls.take j ++ ls[j] :: ls.drop (j + 1) := by
          rw [List.getElem_cons_drop, List.take_append_drop]
        rw [List.append_assoc]
        refine List.Perm.append_left _ ?_
        conv => rhs; rw [e3]
        rw [List.singleton_append]
        exact List.perm_middle.symm
      · rw [List.length_append, List.length_take, List.length_drop]
        omega
    · rintro σ H' ⟨ls, fs, v4, v5, rfl, g, hp, hli⟩
      rw [S_len] at hli
      have e : ls = [] := List.eq_nil_of_length_eq_zero (by omega)
      subst e
      rw [List.append_nil] at hp
      exact ⟨_, rfl, q _ _ g hp⟩
abbrev sWord : Stmt := topS 74
theorem scWord : FnScope ["_law_rng", "_law_signs", "_law_most", "_law_k"]
    ["_law_rng", "_law_signs", "_law_most"] (defScope sWord) :=
  ⟨rfl, rfl, rfl, by decide +kernel, rfl, by decide +kernel, by decide +kernel⟩
theorem ok_word {f fD fP : Addr} {fd fdD fdP : FuncData} (F : Fun K "_law_word" "_law_word" sWord f fd)
    (FD : Fun K "_law_draw" "_law_draw" sDraw fD fdD) (bD : Binds K fdD ["_law_rng", "_law_sides"] [])
    (gD : mg "_law_draw" = some (.ref fD))
    (FP : Fun K "_law_pick" "_law_pick" sPick fP fdP) (bP : Binds K fdP ["_law_rng", "_law_things"] [])
    (gP : mg "_law_pick" = some (.ref fP)) (mi : mg "int" = none) (ml : mg "len" = none)
    (mr : mg "range" = none) :
    FnOk P w K mg base CX0 3 f fd ["_law_rng", "_law_signs", "_law_most"] spWord := by
  have GD : FnOk P w K mg base CX0 1 fD fdD ["_law_rng", "_law_sides"] spDraw := ok_draw FD mi ml
  have GP : FnOk P w K mg base CX0 2 fP fdP ["_law_rng", "_law_things"] (spPick K) := ok_pick FP FD bD gD mi ml
  refine F.ok scWord (fun vs H Q E h => ?_) (fun cdv A outer s H vs Q E hr h => ?_)
  · obtain ⟨r, gs, m, rfl, _⟩ := h
    rfl
  · obtain ⟨r, gs, m, rfl, h0, h1, m0, m1, R, q⟩ := h
    have hr1 : Room 1 _ := hr.mono (by decide)
    refine ⟨_, pss_one (ps_ret (pe_join pe_str (pe_lc (own := [("_law_k", 3)]) (g := gName 3) (tt := tYes) rfl scWord.nd
        (pi_range1 rfl mr (pa_cons (pe_call GD hr1 (by rfl) gD FD.kp bD .nil pass0 (pa_cons (pv 0) (pa_cons (pe_op op_add (pv 2) pe_int) pa_nil))) pa_nil))
        (blkOk_by (N := ["_law_rng", "_law_signs", "_law_most", "_law_k"]) (sc := defScope sWord) (by decide +kernel))
        (fun _ _ _ _ _ => pg_name (i := 3) scWord.nd rfl (Or.inl rfl)) (fun _ _ _ _ _ => pts_nil)
        (fun _ _ _ _ _ => pe_call GP hr (by rfl) gP FP.kp bP .nil pass0 (pa_cons (pv 0) (pa_cons (pv 1) pa_nil)))))), ?_⟩
    refine ⟨⟨_, rfl⟩, _, rfl, _, rfl, _, _, rfl, rfl, r, _, rfl, by omega, by omega, R, fun H1 k g1 k0 k1 => ?_⟩
    obtain ⟨n, rfl⟩ := Int.eq_ofNat_of_zero_le k0
    refine ⟨_, rfl, by omega, by omega, fun D nD => ?_⟩
    obtain ⟨xr, er⟩ := g1.rng.ex
    have nDr : D ≠ r := (ne_of_none er nD).symm
    refine lc_range (lo := 0) (n := (n : Int).toNat)
      (fun i H' => ∃ cs : List Nat, H' D = some (.lst (cs.map fun c => V.str (S [c]))) ∧ (∀ c ∈ cs, c ∈ gs) ∧ cs.length = i ∧ Go r H1 H')
      ⟨[], upd_same, (fun c hc => nomatch hc), rfl, (Go.refl g1.rng).same (same_new nD)⟩ ?_ ?_
    · rintro i H' hi ⟨cs, hD, hc, hn, g⟩
      refine ⟨rfl, _, rfl, _, rfl, r, _, rfl, g.rng, .inr ⟨gs, rfl, h0, h1, fun H2 c g2 hcm => ?_⟩⟩
      refine ⟨_, g2.1 _ _ nDr hD, ?_, ?_⟩
      · rw [List.length_map]
        exact small1000 (by omega)
      · refine ⟨cs ++ [c], ?_, fun x hx => ?_, by rw [List.length_append, hn]; rfl, ?_⟩
        · rw [upd_same, List.map_append]
          rfl
        · rcases List.mem_append.mp hx with h | h
          · exact hc x h
          · rw [List.mem_singleton.mp h]; exact hcm
        · exact (g.trans g2).put nD
    · rintro H' ⟨cs, hD, hc, hn, g⟩
      refine ⟨_, D, cs.map (fun c => S [c]), rfl, rfl, .inl (.inl (.inl ?_)), ?_, ?_⟩
      · rw [hD, List.map_map]
        rfl
      · rw [one_len]
        show cs.length + _ * 0 ≤ _
        omega
      · rw [joinC]
        exact q _ _ (g1.trans g) hc (by omega)
abbrev sIs : Stmt := topS 17
theorem scIs : FnScope ["letters", "turn"] ["letters", "turn"] (defScope sIs) :=
  ⟨rfl, rfl, rfl, by decide +kernel, rfl, by decide +kernel, by decide +kernel⟩
theorem ok_is {f : Addr} {fd : FuncData} (F : Fun K "is_turn" "is_turn" sIs f fd) (ms : mg "sorted" = none) :
    FnOk P w K mg base CX0 1 f fd ["letters", "turn"] spIs := by
  refine F.ok scIs (fun vs H Q E h => ?_) (fun cdv A outer s H vs Q E hr h => ?_)
  · obtain ⟨gs, t, rfl, _⟩ := h
    rfl
  · obtain ⟨gs, t, rfl, l1, l2, c1, c2, q⟩ := h
    refine ⟨_, pss_one (ps_ret (pe_cmpR (op_eqD hr.units) (pe_callB (call_sortedTx rfl) (by rfl) ms (by decide +kernel) (pa_cons (pv 1) pa_nil))
      (pe_callB (call_sortedTx rfl) (by rfl) ms (by decide +kernel) (pa_cons (pv 0) pa_nil)) (nomark _))), ?_⟩
    refine ⟨_, rfl, S t, rfl, l2, fun ys1 p1 hp1 hs1 n1 => ⟨_, rfl, S gs, rfl, l1, fun ys2 p2 hp2 hs2 n2 => ?_⟩⟩
    obtain ⟨ls, rfl, h1⟩ := signs_of (zs := t) hp1
    obtain ⟨ms', rfl, h2⟩ := signs_of (zs := gs) hp2
    have s1 := same_new (o := .lst ((ls.map S).map V.str)) n1
    have s2 := same_new (o := .lst ((ms'.map S).map V.str)) n2
    refine ⟨_, _, .lst (.inl (.inl (s2 _ _ upd_same))) (dp_all ls), .lst (.inl (.inl upd_same)) (dp_all ms'), shp_tx (small_of h1 c2), shp_tx (small_of h2 c1), ?_⟩
    rw [show PyData.eqv (.list (ls.map fun c => PyData.str (S c))) (.list (ms'.map fun c => PyData.str (S c))) = decide (ls = ms') from eqvAll_tx ls ms', signs_eq h1 h2 hs1 hs2]
    exact q _ (s1.trans s2)
abbrev sLTurned : Stmt := topS 75
theorem scLTurned : FnScope ["_law_signs", "_law_my_turn", "_law_shown", "_law_sign"]
    ["_law_signs", "_law_my_turn", "_law_shown"] (defScope sLTurned) :=
  ⟨rfl, rfl, rfl, by decide +kernel, rfl, by decide +kernel, by decide +kernel⟩
theorem ok_lturned {f : Addr} {fd : FuncData} (F : Fun K "_law_turned" "_law_turned" sLTurned f fd) :
    FnOk P w K mg base CX0 1 f fd ["_law_signs", "_law_my_turn", "_law_shown"] spTd := by
  refine F.ok scLTurned (fun vs H Q E h => ?_) (fun cdv A outer s H vs Q E hr h => ?_)
  · obtain ⟨gs, t, xs, rfl, _⟩ := h
    rfl
  · obtain ⟨gs, t, xs, rfl, nd, hg, ht, hx, hm, q⟩ := h
    refine ⟨_, pss_one (ps_ret (pe_join pe_str (pe_lc (own := [("_law_sign", 3)]) (g := gName 3) (tt := tYes) rfl scLTurned.nd
        (pi_str (pv 2))
        (blkOk_by (N := ["_law_signs", "_law_my_turn", "_law_shown", "_law_sign"]) (sc := defScope sLTurned) (by decide +kernel))
        (fun _ _ _ _ _ => pg_name (i := 3) scLTurned.nd rfl (Or.inl rfl)) (fun _ _ _ _ _ => pts_nil)
        (fun _ _ _ _ _ => pe_ix ix_str (pv 1) (pe_m1 PySem.F.slot_str_index PySem.F.type_str_index mt_sindex (pv 0) (pv 3))
          (fun _ _ => rfl))))), ?_⟩
    refine ⟨⟨_, rfl⟩, _, rfl, _, rfl, fun D nD => ?_⟩
    refine lc_it (walk_str (z := S xs)) (fun i H' => H' = upd H D (.lst (((xs.take i).map (tau gs t)).map fun c => V.str (S [c])))) rfl (fun _ _ _ _ => trivial) ?_ ?_
    · rintro i x H' H'' hi rfl ⟨rfl, c, hc, rfl⟩
      have hc2 : xs[i]? = some c := by rw [← List.getElem?_toArray]; exact hc
      have hcm : c ∈ gs := hm c (List.mem_of_getElem? hc2)
      obtain ⟨rest, ho⟩ := occ1 hcm
      refine ⟨rfl, _, rfl, _, rfl, ⟨_, rfl⟩, _, rfl, _, _, _, rest, rfl, rfl, ho, ?_⟩
      refine ⟨_, _, tau gs t c, rfl, rfl, by rw [S_len]; exact small (by omega), atI_nat (tau_at hcm ht), _, upd_same, ?_, ?_⟩
      · rw [List.length_map, List.length_map, List.length_take]
        exact small1000 (by omega)
      · rw [upd_upd, List.take_add_one, hc2, List.map_append, List.map_append]
        rfl
    · rintro H' rfl
      have e : xs.take (S xs).cps.size = xs := List.take_of_length_le (Nat.le_of_eq rfl)
      rw [e]
      refine ⟨_, D, (xs.map (tau gs t)).map (fun c => S [c]), rfl, rfl, .inl (.inl (.inl ?_)), ?_, ?_⟩
      · rw [upd_same]
        simp only [List.map_map]
        rfl
      · rw [one_len, List.length_map]
        show xs.length + _ * 0 ≤ _
        omega
      · rw [joinC]
        exact q _ (same_new nD)
abbrev sCheck : Stmt := topS 16
theorem scCheck : FnScope ["letters", "text", "at", "letter"] ["letters", "text"] (defScope sCheck) :=
  ⟨rfl, rfl, rfl, by decide +kernel, rfl, by decide +kernel, by decide +kernel⟩
theorem ok_check {f : Addr} {fd : FuncData} (F : Fun K "check_text" "check_text" sCheck f fd) (me : mg "enumerate" = none) :
    FnOk P w K mg base CX0 1 f fd ["letters", "text"] spCk := by
  refine F.ok scCheck (fun vs H Q E h => ?_) (fun cdv A outer s H vs Q E hr h => ?_)
  · obtain ⟨gs, xs, rfl, _⟩ := h
    rfl
  · obtain ⟨gs, xs, rfl, hm, q⟩ := h
    refine ⟨_, pss_one (ps_for PassesOwn.never rfl (pi_enS (by rfl) me (pa_cons (pv 1) pa_nil))
      (pg_tup rfl (pgs_cons (pg_name (i := 2) scCheck.nd rfl (.inl rfl)) (pgs_cons (pg_name (i := 3) scCheck.nd rfl (.inl rfl)) pgs_nil)))
      (pss_one (ps_if (pt_cmpR op_notIn_sign (pv 3) (pv 0) rfl) pss_never pss_nil))), ?_⟩
    refine ⟨_, rfl, _, rfl, for_it (walkE (z := S xs)) (fun i σ H' => ∃ v2 v3, σ = [some (.str (S gs)), some (.str (S xs)), v2, v3] ∧ Same H H')
      ⟨none, none, rfl, Same.refl _⟩ (fun _ _ _ _ _ => trivial) ?_ ?_⟩
    · rintro i x σ H' H'' hi ⟨v2, v3, rfl, s1⟩ ⟨T, c, rfl, nT, hc, rfl⟩
      have hc2 : xs[i]? = some c := by rw [← List.getElem?_toArray]; exact hc
      have hcm : c ∈ gs := hm c (List.mem_of_getElem? hc2)
      refine ⟨T, _, rfl, .inl (.inl upd_same), rfl, _, _, rfl, _, _, rfl, rfl, ?_⟩
      refine ⟨_, rfl, _, rfl, c, _, rfl, rfl, _, rfl, ?_⟩
      refine iteNS hcm ?_
      exact ⟨_, _, rfl, s1.trans (same_new nT)⟩
    · rintro σ H' ⟨v2, v3, rfl, s1⟩
      exact q _ s1
abbrev sTurned : Stmt := topS 18
theorem scTurned : FnScope ["letters", "turn", "text", "into", "letter"] ["letters", "turn", "text"] (defScope sTurned) :=
  ⟨rfl, rfl, rfl, by decide +kernel, rfl, by decide +kernel, by decide +kernel⟩
theorem ok_turned {f fC : Addr} {fd fdC : FuncData} (F : Fun K "turned" "turned" sTurned f fd)
    (FC : Fun K "check_text" "check_text" sCheck fC fdC) (bC : Binds K fdC ["letters", "text"] []) (gC : mg "check_text" = some (.ref fC))
    (me : mg "enumerate" = none) (md : mg "dict" = none) (mz : mg "zip" = none) :
    FnOk P w K mg base CX0 2 f fd ["letters", "turn", "text"] spTd := by
  have GC : FnOk P w K mg base CX0 1 fC fdC ["letters", "text"] spCk := ok_check FC me
  refine F.ok scTurned (fun vs H Q E h => ?_) (fun cdv A outer s H vs Q E hr h => ?_)
  · obtain ⟨gs, t, xs, rfl, _⟩ := h
    rfl
  · obtain ⟨gs, t, xs, rfl, nd, hg, ht, hx, hm, q⟩ := h
    have hu := hu_of hr
    refine ⟨_, pss_cons (ps_expr (pe_call GC hr (by rfl) gC FC.kp bC .nil pass0 (pa_cons (pv 0) (pa_cons (pv 2) pa_nil))))
      (pss_cons (ps_set (i := 3) scTurned.nd rfl (.inr rfl) (pe_dz (by rfl) md (by rfl) mz (pa_cons (pv 0) (pa_cons (pv 1) pa_nil))))
      (pss_one (ps_ret (pe_join pe_str (pe_lc (own := [("letter", 4)]) (g := gName 4) (tt := tYes) rfl scTurned.nd
        (pi_str (pv 2))
        (blkOk_by (N := ["letters", "turn", "text", "into", "letter"]) (sc := defScope sTurned) (by decide +kernel))
        (fun _ _ _ _ _ => pg_name (i := 4) scTurned.nd rfl (Or.inl rfl)) (fun _ _ _ _ _ => pts_nil)
        (fun _ _ _ _ _ => pe_dget hu (pv 3) (pv 4) (fun _ _ => rfl))))))), ?_⟩
    refine ⟨_, rfl, _, rfl, gs, xs, rfl, hm, fun H1 s1 => ?_⟩
    refine ⟨_, rfl, _, rfl, S gs, S t, rfl, ?_, fun d nd1 => ?_⟩
    · show min gs.length t.length ≤ sizeLine
      exact small (by omega)
    refine ⟨⟨_, rfl⟩, _, rfl, _, rfl, fun D nD => ?_⟩
    have ndD : d ≠ D := fun e => by
      rw [← e, upd_same] at nD
      cases nD
    refine lc_it (walk_str (z := S xs)) (fun i H' => H' = upd (upd H1 d (.dK (mergeK [] (zipS (S gs) (S t))))) D (.lst (((xs.take i).map (tau gs t)).map fun c => V.str (S [c])))) rfl (fun _ _ _ _ => trivial) ?_ ?_
    · rintro i x H' H'' hi rfl ⟨rfl, c, hc, rfl⟩
      have hc2 : xs[i]? = some c := by rw [← List.getElem?_toArray]; exact hc
      have hcm : c ∈ gs := hm c (List.mem_of_getElem? hc2)
      have hget : DGet (upd (upd H1 d (.dK (mergeK [] (zipS (S gs) (S t))))) D (.lst (((xs.take i).map (tau gs t)).map fun c => V.str (S [c])))) d
          (.str (S [c])) (some (.str (S [tau gs t c]))) := by
        rw [← dz_get nd ht hcm]
        exact DGet.k (k := Sum.inr (S [c])) (by rw [upd_ne ndD, upd_same])
      refine ⟨rfl, _, rfl, _, rfl, d, _, rfl, hget, _, upd_same, ?_, ?_⟩
      · rw [List.length_map, List.length_map, List.length_take]
        exact small1000 (by omega)
      · rw [upd_upd, List.take_add_one, hc2, List.map_append, List.map_append]
        rfl
    · rintro H' rfl
      have e : xs.take (S xs).cps.size = xs := List.take_of_length_le (Nat.le_of_eq rfl)
      rw [e]
      refine ⟨_, D, (xs.map (tau gs t)).map (fun c => S [c]), rfl, rfl, .inl (.inl (.inl ?_)), ?_, ?_⟩
      · rw [upd_same]
        simp only [List.map_map]
        rfl
      · rw [one_len, List.length_map]
        show xs.length + _ * 0 ≤ _
        omega
      · rw [joinC]
        exact q _ ((s1.trans (same_new nd1)).trans (same_new nD))
abbrev sSame : Stmt := topS 71
theorem scSame : FnScope ["_law_found", "_law_due", "_law_a", "_law_b"] ["_law_found", "_law_due"] (defScope sSame) :=
  ⟨rfl, rfl, rfl, by decide +kernel, rfl, by decide +kernel, by decide +kernel⟩
theorem same_step {f : Addr} {fd : FuncData} {n : Nat} (F : Fun K "_law_same" "_law_same" sSame f fd) (T : SameT mg)
    (bS : Binds K fd ["_law_found", "_law_due"] []) (gS : mg "_law_same" = some (.ref f))
    (GS : FnOk P w K mg base CX0 n f fd ["_law_found", "_law_due"] (spSm K n)) :
    FnOk P w K mg base CX0 (n + 1) f fd ["_law_found", "_law_due"] (spSm K (n + 1)) := by
  refine F.ok scSame (fun vs H Q E h => ?_) (fun cdv A outer s H vs Q E hr h => ?_)
  · obtain ⟨x, y, rfl, _⟩ := h
    rfl
  · obtain ⟨x, y, rfl, h, q⟩ := h
    refine ⟨_, pss_cons (ps_if (pt_val (pe_callB call_isiT (by rfl) T.isi (by decide +kernel) (pa_cons (pv 1) (pa_cons
          (pe_tup (pa_cons (pe_bltn (v := .ty "list") (u := .type "list") (by rfl) T.list (by decide +kernel) rfl)
            (pa_cons (pe_bltn (v := .ty "tuple") (u := .type "tuple") (by rfl) T.tuple (by decide +kernel) rfl) pa_nil))) pa_nil))))
        (pss_cons (ps_if (PW.pt (pw_or
            (pt_cmpR op_ne (pe_callB call_isi (by rfl) T.isi (by decide +kernel) (pa_cons (pv 0) (pa_cons (pe_bltn (v := .ty "list") (u := .type "list") (by rfl) T.list (by decide +kernel) rfl) pa_nil)))
              (pe_callB call_isi (by rfl) T.isi (by decide +kernel) (pa_cons (pv 1) (pa_cons (pe_bltn (v := .ty "list") (u := .type "list") (by rfl) T.list (by decide +kernel) rfl) pa_nil))) (nomark _))
            (pw_or1 (pt_cmpR op_ne (pe_callB call_isi (by rfl) T.isi (by decide +kernel) (pa_cons (pv 0) (pa_cons (pe_bltn (v := .ty "tuple") (u := .type "tuple") (by rfl) T.tuple (by decide +kernel) rfl) pa_nil)))
              (pe_callB call_isi (by rfl) T.isi (by decide +kernel) (pa_cons (pv 1) (pa_cons (pe_bltn (v := .ty "tuple") (u := .type "tuple") (by rfl) T.tuple (by decide +kernel) rfl) pa_nil))) (nomark _)))))
          pss_never pss_nil)
        (pss_one (ps_ret (pe_and (pe_cmpR op_eq (pe_callB call_len (by rfl) T.len PySem.boot_len (pa_cons (pv 0) pa_nil)) (pe_callB call_len (by rfl) T.len PySem.boot_len (pa_cons (pv 1) pa_nil)) (nomark _))
          (pe_one (pe_callB (cr_all rfl) (by rfl) T.all (by decide +kernel) (pa_cons
            (pe_lc (own := [("_law_a", 2), ("_law_b", 3)]) (g := gTup K 2 (gCons (gName 2) (gCons (gName 3) gNil))) (tt := tYes) rfl scSame.nd
              (pi_zipA (by rfl) T.zip (pa_cons (pv 0) (pa_cons (pv 1) pa_nil)))
              (blkOk_by (N := ["_law_found", "_law_due", "_law_a", "_law_b"]) (sc := defScope sSame) (by decide +kernel))
              (fun _ _ _ _ _ => pg_tup rfl (pgs_cons (pg_name (i := 2) scSame.nd rfl (Or.inl rfl)) (pgs_cons (pg_name (i := 3) scSame.nd rfl (Or.inl rfl)) pgs_nil)))
              (fun _ _ _ _ _ => pts_nil)
              (fun _ _ _ _ _ => pe_call GS hr (by rfl) gS F.kp bS .nil pass0 (pa_cons (pv 2) (pa_cons (pv 3) pa_nil)))) pa_nil)))))))
        pss_nil)
      (pss_cons (ps_if (PW.pt (pw_or (pt_cmpR op_isN (pv 1) pe_non (nomark _)) (pw_or1 (pt_cmpR op_isN (pv 0) pe_non (nomark _)))))
        (pss_one (ps_ret (pe_and (pe_cmpR op_isN (pv 1) pe_non (nomark _)) (pe_one (pe_cmpR op_isN (pv 0) pe_non (nomark _)))))) pss_nil)
      (pss_cons (ps_if (PW.pt (pw_or
            (pt_cmpR op_ne (pe_callB call_isi (by rfl) T.isi (by decide +kernel) (pa_cons (pv 1) (pa_cons (pe_bltn (v := .ty "bool") (u := .type "bool") (by rfl) T.bool (by decide +kernel) rfl) pa_nil)))
              (pe_callB call_isi (by rfl) T.isi (by decide +kernel) (pa_cons (pv 0) (pa_cons (pe_bltn (v := .ty "bool") (u := .type "bool") (by rfl) T.bool (by decide +kernel) rfl) pa_nil))) (nomark _))
            (pw_or1 (pt_cmpR op_ne (pe_callB call_isi (by rfl) T.isi (by decide +kernel) (pa_cons (pv 1) (pa_cons (pe_bltn (v := .ty "int") (u := .type "int") (by rfl) T.int (by decide +kernel) rfl) pa_nil)))
              (pe_callB call_isi (by rfl) T.isi (by decide +kernel) (pa_cons (pv 0) (pa_cons (pe_bltn (v := .ty "int") (u := .type "int") (by rfl) T.int (by decide +kernel) rfl) pa_nil))) (nomark _)))))
          pss_never pss_nil)
      (pss_one (ps_ret (pe_and (pe_cmpR op_eq (pe_callB call_isi (by rfl) T.isi (by decide +kernel) (pa_cons (pv 1) (pa_cons (pe_bltn (v := .ty "str") (u := .type "str") (by rfl) T.str (by decide +kernel) rfl) pa_nil)))
              (pe_callB call_isi (by rfl) T.isi (by decide +kernel) (pa_cons (pv 0) (pa_cons (pe_bltn (v := .ty "str") (u := .type "str") (by rfl) T.str (by decide +kernel) rfl) pa_nil))) (nomark _))
        (pe_one (pe_cmpR op_eq (pv 0) (pv 1) (nomark _)))))))), ?_⟩
    rcases h with ⟨rfl, hf⟩ | ⟨a, b, xs, ys, rfl, rfl, hab, l1, l2, k⟩
    · obtain ⟨t, hty, k1, k2, ⟨b1, k3⟩, ⟨b2, k4⟩, ⟨b3, k5⟩⟩ := flat_ty (K := K) hf
      refine ⟨_, rfl, (by show 2 ≤ sizeLine; decide), fun tp ntp => ?_⟩
      have s1 := same_new (o := .tup [.ty "list", .ty "tuple"]) ntp
      refine ⟨x, tp, _, .type t, [.type "list", .type "tuple"], false, rfl, upd_same, .cons (.ty _) (.cons (.ty _) .nil), hty _, kit2 k1 k2, false, rfl, iteF ?_⟩
      by_cases hx : x = .non
      · subst hx
        refine ⟨_, rfl, rfl, _, rfl, ?_⟩
        rw [decide_eq_true rfl]
        refine ⟨_, rfl, rfl, true, by rw [decide_eq_true rfl], iteT ⟨_, rfl, rfl, ?_⟩⟩
        rw [decide_eq_true rfl]
        exact q _ s1
      · refine ⟨_, rfl, rfl, _, rfl, ?_⟩
        rw [decide_eq_false hx]
        refine ⟨_, rfl, rfl, _, rfl, ?_⟩
        rw [decide_eq_false hx]
        refine ⟨_, rfl, x, .ty "bool", .type t, .type "bool", b1, rfl, .ty _, hty _, kit_ty k3, _, rfl, x, .ty "bool", .type t, .type "bool", b1, rfl, .ty _, hty _, kit_ty k3, rfl, _, rfl, ?_⟩
        refine iteNS rfl ?_
        refine ⟨_, rfl, x, .ty "int", .type t, .type "int", b2, rfl, .ty _, hty _, kit_ty k4, _, rfl, x, .ty "int", .type t, .type "int", b2, rfl, .ty _, hty _, kit_ty k4, rfl, _, rfl, ?_⟩
        refine iteNS rfl ?_
        refine ⟨_, rfl, x, .ty "str", .type t, .type "str", b3, rfl, .ty _, hty _, kit_ty k5, _, rfl, x, .ty "str", .type t, .type "str", b3, rfl, .ty _, hty _, kit_ty k5, rfl, true, by rw [decide_eq_true rfl], iteT ?_⟩
        refine ⟨_, rfl, _, rfl, ?_, ?_⟩
        · cases x with
          | non => exact absurd rfl hx
          | bl b => rfl
          | int i => rfl
          | str z => rfl
          | _ => exact hf.elim
        · rw [decide_eq_true rfl]
          exact q _ s1
    · refine ⟨_, rfl, (by show 2 ≤ sizeLine; decide), fun tp ntp => ?_⟩
      have s1 := same_new (o := .tup [.ty "list", .ty "tuple"]) ntp
      have turn : ∀ (D : Addr) (nD : (upd H tp (.tup [.ty "list", .ty "tuple"])) D = none) (i : Nat) (x : V) (H' H'' : Hp),
          (Same (upd H tp (.tup [.ty "list", .ty "tuple"])) H' ∧ H' D = some (.lst ((List.replicate i true).map V.bl))) → i < xs.length →
          YPair (fun i => xs[i]?) (fun i => ys[i]?) i H' x H'' →
          gTup K 2 (gCons (gName 2) (gCons (gName 3) gNil)) x [some (.ref a), some (.ref b), none, none] H'' fun σ2 H2 =>
            wipe σ2 [2, 3] = wipe [some (.ref a), some (.ref b), none, none] [2, 3] ∧ tYes σ2 H2 fun c H3 =>
            if c = true then tCall (spSm K n) [] E0 (tCons (tVar 2) (tCons (tVar 3) tNil)) σ2 H3 fun y H4 => ∃ acc, H4 D = some (.lst acc) ∧ acc.length < sizeLine ∧
              (Same (upd H tp (.tup [.ty "list", .ty "tuple"])) (upd H4 D (.lst (acc ++ [y]))) ∧ (upd H4 D (.lst (acc ++ [y]))) D = some (.lst ((List.replicate (i + 1) true).map V.bl)))
            else (Same (upd H tp (.tup [.ty "list", .ty "tuple"])) H3 ∧ H3 D = some (.lst ((List.replicate (i + 1) true).map V.bl))) := by
        rintro D nD i x H' H'' ⟨sm, hD⟩ hi ⟨T, u, v, rfl, nT, rfl, hu, hv⟩
        have s2 := same_new (o := .tup [u, v]) nT
        refine ⟨T, _, rfl, .inl (.inl upd_same), rfl, _, _, rfl, _, _, rfl, rfl, rfl, ?_⟩
        refine ⟨_, rfl, _, rfl, u, v, rfl, (k i u v hu hv).same ((s1.trans sm).trans s2), fun H4 s4 => ?_⟩
        refine ⟨_, s4 _ _ (s2 _ _ hD), ?_, fun b o e => ?_, ?_⟩
        · rw [List.length_map, List.length_replicate]
          exact small1000 (by omega)
        · rw [upd_ne (ne_of_none e nD)]
          exact s4 _ _ (s2 _ _ (sm _ _ e))
        · rw [upd_same, List.replicate_succ', List.map_append]
          rfl
      have fin : ∀ (D : Addr) (H' : Hp), (Same (upd H tp (.tup [.ty "list", .ty "tuple"])) H' ∧ H' D = some (.lst ((List.replicate xs.length true).map V.bl))) →
          rAll K [.ref D] H' fun v H' => Q v H' := by
        rintro D H' ⟨sm, hD⟩
        refine ⟨D, _, rfl, .inl (.inl hD), ?_⟩
        have e : (List.replicate xs.length true).all id = true := by
          rw [List.all_eq_true]
          intro c hc
          rw [List.eq_of_mem_replicate hc]
          rfl
        rw [e]
        exact q _ (s1.trans sm)
      rcases hab with ⟨ha, hb⟩ | ⟨ha, hb⟩
      · have ha := s1.seq ha
        have hb := s1.seq hb
        refine ⟨.ref b, tp, _, .type "list", [.type "list", .type "tuple"], true, rfl, upd_same, .cons (.ty _) (.cons (.ty _) .nil), tyL hb, kit2 (r := true) (s := false) (by decide +kernel) (by decide +kernel), true, rfl, iteT ?_⟩
        refine ⟨_, rfl, .ref a, .ty "list", .type "list", .type "list", true, rfl, .ty _, tyL ha, kit_ty (by decide +kernel), _, rfl, .ref b, .ty "list", .type "list", .type "list", true, rfl, .ty _, tyL hb, kit_ty (by decide +kernel), rfl, _, rfl, ?_⟩
        refine iteNS rfl ?_
        refine ⟨_, rfl, .ref a, .ty "tuple", .type "list", .type "tuple", false, rfl, .ty _, tyL ha, kit_ty (by decide +kernel), _, rfl, .ref b, .ty "tuple", .type "list", .type "tuple", false, rfl, .ty _, tyL hb, kit_ty (by decide +kernel), rfl, _, rfl, ?_⟩
        refine iteNS rfl ?_
        refine ⟨_, rfl, _, xs.length, rfl, .inl ⟨_, ha, rfl⟩, _, rfl, _, xs.length, rfl, .inl ⟨_, hb, l2⟩, rfl, true, by rw [decide_eq_true rfl], iteT ?_⟩
        refine ⟨_, rfl, _, rfl, a, b, xs, ys, rfl, .inl ⟨ha, hb, fun D nD => ?_⟩⟩
        refine lc_it (walk_zip (K := K) (a := a) (b := b) (xs := xs) (ys := ys) (n := xs.length) (by omega))
          (fun i H' => Same (upd H tp (.tup [.ty "list", .ty "tuple"])) H' ∧ H' D = some (.lst ((List.replicate i true).map V.bl)))
          ⟨same_new nD, upd_same⟩ (fun i H' _ ⟨sm, _⟩ => ⟨sm.seq ha, sm.seq hb⟩) (fun i x H' H'' hi p y => turn D nD i x H' H'' p hi y) (fun H' p => fin D H' p)
      · have ha := same_t s1 ha
        have hb := same_t s1 hb
        refine ⟨.ref b, tp, _, .type "tuple", [.type "list", .type "tuple"], true, rfl, upd_same, .cons (.ty _) (.cons (.ty _) .nil), tyT hb, kit2 (r := false) (s := true) (by decide +kernel) (by decide +kernel), true, rfl, iteT ?_⟩
        refine ⟨_, rfl, .ref a, .ty "list", .type "tuple", .type "list", false, rfl, .ty _, tyT ha, kit_ty (by decide +kernel), _, rfl, .ref b, .ty "list", .type "tuple", .type "list", false, rfl, .ty _, tyT hb, kit_ty (by decide +kernel), rfl, _, rfl, ?_⟩
        refine iteNS rfl ?_
        refine ⟨_, rfl, .ref a, .ty "tuple", .type "tuple", .type "tuple", true, rfl, .ty _, tyT ha, kit_ty (by decide +kernel), _, rfl, .ref b, .ty "tuple", .type "tuple", .type "tuple", true, rfl, .ty _, tyT hb, kit_ty (by decide +kernel), rfl, _, rfl, ?_⟩
        refine iteNS rfl ?_
        refine ⟨_, rfl, _, xs.length, rfl, .inr ⟨_, ha, rfl⟩, _, rfl, _, xs.length, rfl, .inr ⟨_, hb, l2⟩, rfl, true, by rw [decide_eq_true rfl], iteT ?_⟩
        refine ⟨_, rfl, _, rfl, a, b, xs, ys, rfl, .inr ⟨ha, hb, fun D nD => ?_⟩⟩
        refine lc_it (walk_zT (K := K) (a := a) (b := b) (xs := xs) (ys := ys) (n := xs.length) (by omega))
          (fun i H' => Same (upd H tp (.tup [.ty "list", .ty "tuple"])) H' ∧ H' D = some (.lst ((List.replicate i true).map V.bl)))
          ⟨same_new nD, upd_same⟩ (fun i H' _ ⟨sm, _⟩ => ⟨same_t sm ha, same_t sm hb⟩) (fun i x H' H'' hi p y => turn D nD i x H' H'' p hi y) (fun H' p => fin D H' p)

theorem ok_same {f : Addr} {fd : FuncData} (F : Fun K "_law_same" "_law_same" sSame f fd) (T : SameT mg)
    (bS : Binds K fd ["_law_found", "_law_due"] []) (gS : mg "_law_same" = some (.ref f)) :
    ∀ n, FnOk P w K mg base CX0 n f fd ["_law_found", "_law_due"] (spSm K n)
  | 0 => ⟨fun vs H Q E h => (let ⟨_, _, _, h, _⟩ := h; h.elim), fun A outer s H args us vs Q E _ _ _ _ h => (let ⟨_, _, _, h, _⟩ := h; h.elim)⟩
  | n + 1 => same_step F T bS gS (ok_same F T bS gS n)
abbrev sBk : Stmt := topS 22
theorem scBk : FnScope ["item"] ["item"] (defScope sBk) := ⟨rfl, rfl, rfl, by decide +kernel, rfl, by decide +kernel, by decide +kernel⟩
theorem ok_bk {f : Addr} {fd : FuncData} (F : Fun K "is_blank" "is_blank" sBk f fd) (ml : mg "len" = none) : FnOk P w K mg base CX0 1 f fd ["item"] spBk := by
  refine F.ok scBk (fun vs H Q E h => ?_) (fun cdv A outer s H vs Q E hr h => ?_)
  · obtain ⟨x, rfl, _⟩ := h
    rfl
  · obtain ⟨x, rfl, hl, q⟩ := h
    refine ⟨_, pss_one (ps_ret (pe_cmpR op_gt (pe_callB call_len_str (by rfl) ml PySem.boot_len (pa_cons (pv 0) pa_nil)) pe_int (nomark _))), ?_⟩
    refine ⟨_, rfl, _, rfl, by rw [S_len]; exact small hl, _, _, rfl, rfl, ?_⟩
    have e : decide (((S x).length : Int) > 1) = decide (1 < x.length) := by
      rw [decide_eq_decide, S_len]
      omega
    show Q (.bl (decide (((S x).length : Int) > 1))) H
    rw [e]
    exact q _ (Same.refl _)
abbrev sIt : Stmt := topS 25
theorem scIt : FnScope ["letters", "item"] ["letters", "item"] (defScope sIt) := ⟨rfl, rfl, rfl, by decide +kernel, rfl, by decide +kernel, by decide +kernel⟩
theorem ok_it {f f1 : Addr} {fd fd1 : FuncData} (F : Fun K "item_text" "item_text" sIt f fd) (c1 : Cl P w K mg base "is_blank" 1 ["item"] spBk f1 fd1) (mP : ∃ t, mg "PLAIN_BLANK" = some (.str "{}" t)) :
    FnOk P w K mg base CX0 2 f fd ["letters", "item"] spIt := by
  obtain ⟨tP, mP⟩ := mP
  refine F.ok scIt (fun vs H Q E h => ?_) (fun cdv A outer s H vs Q E hr h => ?_)
  · obtain ⟨gs, x, rfl, _⟩ := h
    rfl
  · obtain ⟨gs, x, rfl, hg, hl, q⟩ := h
    refine ⟨_, pss_cons (ps_if (pt_not (pt_val (pe_cl c1 hr (by decide) (by rfl) (pa_cons (pv 1) pa_nil)))) (pss_one (ps_ret (pv 1))) pss_nil)
      (pss_cons (ps_if (pt_cmpR op_eq (pv 1) (pv 0) (nomark _)) (pss_one (ps_ret (pe_glob (v := .str (Str.ofString "{}")) (by rfl) mP ⟨_, rfl⟩))) pss_nil)
      (pss_one (ps_ret (pe_join pe_str (pe_lst (pa_cons pe_str (pa_cons (pv 1) (pa_cons pe_str pa_nil)))))))), ?_⟩
    refine ⟨_, rfl, x, rfl, hl, fun H1 s1 => ⟨_, rfl, ?_⟩⟩
    by_cases h1 : 1 < x.length
    rotate_left
    · rw [decide_eq_false h1]
      refine iteT ⟨_, rfl, ?_⟩
      have e : iTx gs x = x := by unfold iTx; rw [if_neg h1]
      have := q H1 s1
      rw [e] at this
      exact this
    rw [decide_eq_true h1]
    refine iteF ⟨_, rfl, _, rfl, rfl, _, rfl, ?_⟩
    by_cases h2 : x = gs
    · rw [decide_eq_true (by rw [h2])]
      have e : iTx gs x = [123, 125] := by unfold iTx; rw [if_pos h1, if_pos h2]
      have := q H1 s1
      rw [e] at this
      exact iteT this
    · rw [decide_eq_false (fun e => h2 (S_inj (V.str.inj e)))]
      refine iteF ⟨⟨_, rfl⟩, _, rfl, (by show 3 ≤ sizeLine; decide), fun p np => ?_⟩
      have e : iTx gs x = [123] ++ x ++ [125] := by unfold iTx; rw [if_pos h1, if_neg h2]
      have o1 : Str.ofString "{" = S [123] := by decide +kernel
      have o2 : Str.ofString "}" = S [125] := by decide +kernel
      refine ⟨_, p, [[123], x, [125]].map S, rfl, rfl, .inl (.inl (.inl ?_)), ?_, ?_⟩
      · rw [upd_same, o1, o2]
        rfl
      · rw [sum_len]
        show ([123] ++ (x ++ ([125] ++ []))).length + _ * 0 ≤ _
        rw [List.length_append, List.length_append]
        show 1 + (_ + 1) + _ * 0 ≤ _
        omega
      · rw [joinT]
        have := q _ (s1.trans (same_new (o := .lst [.str (Str.ofString "{"), tx x, .str (Str.ofString "}")]) np))
        rw [e] at this
        rw [show [[123], x, [125]].flatten = [123] ++ x ++ [125] by simp]
        exact this
abbrev sRt : Stmt := topS 26
theorem scRt : FnScope ["letters", "row", "item"] ["letters", "row"] (defScope sRt) := ⟨rfl, rfl, rfl, by decide +kernel, rfl, by decide +kernel, by decide +kernel⟩
theorem ok_rt {f f1 : Addr} {fd fd1 : FuncData} (F : Fun K "row_text" "row_text" sRt f fd) (ml : mg "len" = none) (c1 : Cl P w K mg base "item_text" 2 ["letters", "item"] spIt f1 fd1) (mE : ∃ t, mg "EMPTY_TEXT" = some (.str "-" t)) :
    FnOk P w K mg base CX0 3 f fd ["letters", "row"] (spRt K) := by
  obtain ⟨tE, mE⟩ := mE
  refine F.ok scRt (fun vs H Q E h => ?_) (fun cdv A outer s H vs Q E hr h => ?_)
  · obtain ⟨gs, a, its, rfl, _⟩ := h
    rfl
  · obtain ⟨gs, a, its, rfl, hg, hs, hl, hx, q⟩ := h
    refine ⟨_, pss_cons (ps_if (pt_cmpR op_eq (pe_callB call_len (by rfl) ml PySem.boot_len (pa_cons (pv 1) pa_nil)) pe_int (nomark _)) (pss_one (ps_ret (pe_glob (v := .str (Str.ofString "-")) (by rfl) mE ⟨_, rfl⟩))) pss_nil)
      (pss_one (ps_ret (pe_join pe_str (pe_lc (own := [("item", 2)]) (g := gName 2) (tt := tYes) rfl scRt.nd (pi_any (pv 1))
        (blkOk_by (N := ["letters", "row", "item"]) (sc := defScope sRt) (by decide +kernel))
        (fun _ _ _ _ _ => pg_name (i := 2) scRt.nd rfl (Or.inl rfl)) (fun _ _ _ _ _ => pts_nil)
        (fun _ _ _ _ _ => pe_cl c1 hr (by decide) (by rfl) (pa_cons (pv 0) (pa_cons (pv 2) pa_nil))))))), ?_⟩
    have hln : LenV K (.ref a) H its.length := hs.imp (fun h => ⟨_, h, (List.length_map ..).symm⟩) (fun h => ⟨_, h, (List.length_map ..).symm⟩)
    refine ⟨_, rfl, _, its.length, rfl, hln, rfl, _, rfl, ?_⟩
    by_cases h0 : its = []
    · subst h0
      rw [decide_eq_true (show V.int ((([] : List (List Nat)).length : Nat) : Int) = V.int 0 from rfl)]
      exact iteT (q H (Same.refl _))
    · have hne : its.length ≠ 0 := fun e => h0 (List.length_eq_zero_iff.mp e)
      rw [decide_eq_false (fun e => hne (by have := V.int.inj e; omega))]
      refine iteF ⟨⟨_, rfl⟩, it_any (a := a) (xs := its.map tx) (fun k hk => ⟨_, rfl, hk⟩) hs (Same.refl _) fun J W D nD => ?_⟩
      refine lc_it W (fun i H' => Same H H' ∧ H' D = some (.lst (((its.take i).map (iTx gs)).map tx))) ⟨same_new nD, upd_same⟩ (fun _ _ _ h => h.1) ?_ ?_
      · rintro i y H' H'' hi ⟨s1, hD⟩ ⟨rfl, hy⟩
        obtain ⟨x, hx2, rfl⟩ := get_tx hy
        have hxm := hx x (List.mem_of_getElem? hx2)
        refine ⟨rfl, _, rfl, _, rfl, gs, x, rfl, hg, by omega, fun H3 s3 => ?_⟩
        refine ⟨_, s3 _ _ hD, ?_, same_put (s1.trans s3) nD, ?_⟩
        · rw [List.length_map, List.length_map, List.length_take]
          exact small1000 (by omega)
        · rw [upd_same, List.take_add_one, hx2]
          simp
      · rintro H' ⟨s1, hD⟩
        rw [List.length_map, List.take_length] at hD
        refine ⟨_, D, (its.map (iTx gs)).map S, rfl, rfl, .inl (.inl (.inl ?_)), ?_, ?_⟩
        · rw [hD]
          simp
        · rw [sum_len]
          have := flat_len (f := iTx gs) (m := 902) (its := its) fun x hx' => Nat.le_trans iTx_len (by have := hx x hx'; omega)
          show _ + _ * 0 ≤ _
          have : its.length * 902 ≤ 900 * 902 := Nat.mul_le_mul_right _ hl
          omega
        · rw [joinT]
          have := q _ s1
          unfold rTx at this
          rw [if_neg h0] at this
          exact this
abbrev sTr : Stmt := topS 29
theorem scTr : FnScope ["letters", "turn", "row", "item"] ["letters", "turn", "row"] (defScope sTr) := ⟨rfl, rfl, rfl, by decide +kernel, rfl, by decide +kernel, by decide +kernel⟩
theorem ok_tr {f f1 : Addr} {fd fd1 : FuncData} (F : Fun K "turned_row" "turned_row" sTr f fd) (c1 : Cl P w K mg base "turned" 2 ["letters", "turn", "text"] spTd f1 fd1) :
    FnOk P w K mg base CX0 3 f fd ["letters", "turn", "row"] (spTr K) := by
  refine F.ok scTr (fun vs H Q E h => ?_) (fun cdv A outer s H vs Q E hr h => ?_)
  · obtain ⟨gs, t, a, its, rfl, _⟩ := h
    rfl
  · obtain ⟨gs, t, a, its, rfl, nd, hg, ht, hs, hl, hx, q⟩ := h
    refine ⟨_, pss_one (ps_ret (pe_lc (own := [("item", 3)]) (g := gName 3) (tt := tYes) rfl scTr.nd (pi_any (pv 2))
        (blkOk_by (N := ["letters", "turn", "row", "item"]) (sc := defScope sTr) (by decide +kernel))
        (fun _ _ _ _ _ => pg_name (i := 3) scTr.nd rfl (Or.inl rfl)) (fun _ _ _ _ _ => pts_nil)
        (fun _ _ _ _ _ => pe_cl c1 hr (by decide) (by rfl) (pa_cons (pv 0) (pa_cons (pv 1) (pa_cons (pv 3) pa_nil)))))), ?_⟩
    refine it_any (a := a) (xs := its.map tx) (fun k hk => ⟨_, rfl, hk⟩) hs (Same.refl _) fun J W D nD => ?_
    refine lc_it W (fun i H' => Same H H' ∧ H' D = some (.lst (((its.take i).map fun x => x.map (tau gs t)).map tx))) ⟨same_new nD, upd_same⟩ (fun _ _ _ h => h.1) ?_ ?_
    · rintro i y H' H'' hi ⟨s1, hD⟩ ⟨rfl, hy⟩
      obtain ⟨x, hx2, rfl⟩ := get_tx hy
      obtain ⟨hx3, hx4⟩ := hx x (List.mem_of_getElem? hx2)
      refine ⟨rfl, _, rfl, _, rfl, _, rfl, gs, t, x, rfl, nd, hg, ht, hx3, hx4, fun H3 s3 => ?_⟩
      refine ⟨_, s3 _ _ hD, ?_, same_put (s1.trans s3) nD, ?_⟩
      · rw [List.length_map, List.length_map, List.length_take]
        exact small1000 (by omega)
      · rw [upd_same, List.take_add_one, hx2]
        simp
    · rintro H' ⟨s1, hD⟩
      rw [List.length_map, List.take_length] at hD
      exact q _ _ s1 nD hD
abbrev sPut : Stmt := topS 30
theorem scPut : FnScope ["letters", "row", "inner", "made", "item"] ["letters", "row", "inner"] (defScope sPut) := ⟨rfl, rfl, rfl, by decide +kernel, rfl, by decide +kernel, by decide +kernel⟩
theorem ok_put {f f1 f2 : Addr} {fd fd1 fd2 : FuncData} (F : Fun K "put_row" "put_row" sPut f fd) (c1 : Cl P w K mg base "is_blank" 1 ["item"] spBk f1 fd1) (c2 : Cl P w K mg base "turned_row" 3 ["letters", "turn", "row"] (spTr K) f2 fd2) :
    FnOk P w K mg base CX0 4 f fd ["letters", "row", "inner"] (spPut K) := by
  refine F.ok scPut (fun vs H Q E h => ?_) (fun cdv A outer s H vs Q E hr h => ?_)
  · obtain ⟨gs, a, b, its, inn, rfl, _⟩ := h
    rfl
  · obtain ⟨gs, a, b, its, inn, rfl, nd, hg, hR, hs, hl, hi, hil, hix, q⟩ := h
    refine ⟨_, pss_cons (ps_set (i := 3) scPut.nd rfl (.inl rfl) (pe_lst pa_nil))
      (pss_cons (ps_for PassesOwn.never rfl (pi_any (pv 1)) (pg_name (i := 4) scPut.nd rfl (.inl rfl))
        (pss_one (ps_if (pt_val (pe_cl c1 hr (by decide) (by rfl) (pa_cons (pv 4) pa_nil)))
          (pss_one (ps_expr (pe_bm PySem.F.plainAttrs_list PySem.F.slot_list_extend PySem.F.type_list_extend mt_extend (pv 3) (pa_cons (pe_cl c2 hr (by decide) (by rfl) (pa_cons (pv 0) (pa_cons (pv 4) (pa_cons (pv 2) pa_nil)))) pa_nil))))
          (pss_one (ps_expr (pe_bm PySem.F.plainAttrs_list PySem.F.slot_list_append PySem.F.type_list_append mt_append (pv 3) (pa_cons (pv 4) pa_nil)))))))
      (pss_one (ps_ret (pv 3)))), ?_⟩
    refine ⟨Nat.zero_le _, fun D nD => ?_⟩
    have s0 := same_new (o := .lst []) nD
    refine it_any (a := a) (xs := its.map tx) (fun k hk => ⟨_, rfl, hk⟩) hs s0 fun J W => ?_
    have plen : ∀ l : List (List Nat), (putL gs l inn).length ≤ l.length * 901 := by
      intro l
      unfold putL
      induction l with
      | nil => exact Nat.zero_le _
      | cons x r ih =>
        rw [List.map_cons, List.flatten_cons, List.length_append, List.length_cons, Nat.add_mul]
        have : (if 1 < x.length then inn.map fun y => y.map (tau gs x) else [x]).length ≤ 901 := by
          split
          · rw [List.length_map]; omega
          · show 1 ≤ 901; omega
        omega
    refine for_it W (fun i σ H' => ∃ v, σ = [some (tx gs), some (.ref a), some (.ref b), some (.ref D), v] ∧ Same H H' ∧ H' D = some (.lst ((putL gs (its.take i) inn).map tx)))
      ⟨none, rfl, s0, upd_same⟩ (fun _ _ _ _ ⟨_, _, s, _⟩ => s) ?_ ?_
    · rintro i y σ H' H'' hi2 ⟨v, rfl, s1, hD⟩ ⟨rfl, hy⟩
      obtain ⟨x, hx, rfl⟩ := get_tx hy
      have hxm : x ∈ its := List.mem_of_getElem? hx
      have hil2 : i < its.length := (List.getElem?_eq_some_iff.mp hx).1
      have pl2 : (putL gs (its.take i) inn).length ≤ 900 * 901 := by
        refine Nat.le_trans (plen _) (Nat.mul_le_mul_right _ ?_)
        rw [List.length_take]
        omega
      have estep : putL gs (its.take (i + 1)) inn = putL gs (its.take i) inn ++ (if 1 < x.length then inn.map fun y => y.map (tau gs x) else [x]) := by
        unfold putL
        rw [List.take_add_one, hx]
        simp
      have hxl : x.length ≤ 1000 := by
        rcases hR x hxm with ⟨c, _, rfl⟩ | p
        · show 1 ≤ 1000; omega
        · rw [p.length_eq]; exact hg
      refine ⟨_, rfl, x, rfl, hxl, fun H3 s3 => ⟨_, rfl, ?_⟩⟩
      have hD3 := s3 _ _ hD
      by_cases h1 : 1 < x.length
      · rw [decide_eq_true h1]
        rw [if_pos h1] at estep
        have hxp : x.length = gs.length := by
          rcases hR x hxm with ⟨c, _, rfl⟩ | p
          · exact absurd h1 (by show ¬ 1 < 1; omega)
          · exact p.length_eq
        refine iteT ⟨_, rfl, .inl ⟨rfl, _, .inl (.inl hD3)⟩, ?_⟩
        refine ⟨_, rfl, _, rfl, _, rfl, gs, x, b, inn, rfl, nd, hg, hxp, hi.same (s1.trans s3), hil, hix, fun H4 p s4 np hp => ?_⟩
        refine ⟨D, p, _, _, rfl, rfl, s4 _ _ hD3, hp, ?_, ?_⟩
        · rw [List.length_map, List.length_map, List.length_map, sizeLine_eq]
          omega
        · refine ⟨_, rfl, same_put ((s1.trans s3).trans s4) nD, ?_⟩
          rw [upd_same, estep, List.map_append]
      · rw [decide_eq_false h1]
        rw [if_neg h1] at estep
        refine iteF ⟨_, rfl, .inl ⟨rfl, _, .inl (.inl hD3)⟩, ?_⟩
        refine ⟨_, rfl, D, _, _, rfl, rfl, hD3, ?_, ?_⟩
        · rw [List.length_map, sizeLine_eq]
          omega
        · refine ⟨_, rfl, same_put (s1.trans s3) nD, ?_⟩
          rw [upd_same, estep, List.map_append]
          rfl
    · rintro σ H' ⟨v, rfl, s1, hD⟩
      rw [List.length_map, List.take_length] at hD
      exact ⟨_, rfl, q _ _ s1 nD hD⟩
abbrev sBw : Stmt := topS 23
theorem scBw : FnScope ["letters", "text", "at", "end"] ["letters", "text", "at"] (defScope sBw) := ⟨rfl, rfl, rfl, by decide +kernel, rfl, by decide +kernel, by decide +kernel⟩
theorem ok_bw {f f1 : Addr} {fd fd1 : FuncData} (F : Fun K "blank_width" "blank_width" sBw f fd) (ml : mg "len" = none) (c1 : Cl P w K mg base "is_turn" 1 ["letters", "turn"] spIs f1 fd1) (mP : ∃ t, mg "PLAIN_BLANK" = some (.str "{}" t)) :
    FnOk P w K mg base CX0 2 f fd ["letters", "text", "at"] spBw := by
  obtain ⟨tP, mP⟩ := mP
  refine F.ok scBw (fun vs H Q E h => ?_) (fun cdv A outer s H vs Q E hr h => ?_)
  · obtain ⟨gs, pre, post, x, z, rfl, _⟩ := h
    rfl
  · obtain ⟨gs, pre, post, x, z, rfl, hg, hl, hc⟩ := h
    refine ⟨_, pss_cons (ps_if (pt_cmpR op_eq (pe_slice C8.sl_txt (pv 1) (po_some (pv 2)) (po_some (pe_op op_add (pv 2) pe_int))) (pe_glob (v := .str (Str.ofString "{}")) (by rfl) mP ⟨_, rfl⟩) (nomark _)) (pss_one (ps_ret pe_int)) pss_nil)
      (pss_cons (ps_set (i := 3) scBw.nd rfl (.inl rfl) (pe_op op_add (pe_op op_add (pv 2) pe_int) (pe_callB call_len_str (by rfl) ml PySem.boot_len (pa_cons (pv 0) pa_nil))))
      (pss_cons (ps_if (PW.pt (pw_and (pt_cmpR op_eq (pe_ix ix_str (pv 1) (pv 2) (fun _ _ => rfl)) pe_str (nomark _))
          (pw_and (pt_cmpR op_eq (pe_slice C8.sl_txt (pv 1) (po_some (pv 3)) (po_some (pe_op op_add (pv 3) pe_int))) pe_str (nomark _))
          (pw_and1 (pt_val (pe_cl c1 hr (by decide) (by rfl) (pa_cons (pv 0) (pa_cons (pe_slice C8.sl_txt (pv 1) (po_some (pe_op op_add (pv 2) pe_int)) (po_some (pv 3))) pa_nil))))))))
        (pss_one (ps_ret (pe_op op_add (pe_callB call_len_str (by rfl) ml PySem.boot_len (pa_cons (pv 0) pa_nil)) pe_int))) pss_nil)
      (pss_one (ps_ret pe_int)))), ?_⟩
    have hz : (S (pre ++ z ++ post)).length ≤ sizeLine := by rw [S_len]; exact small hl
    have ob : Str.ofString "{}" = S [123, 125] := by decide +kernel
    have o1 : Str.ofString "{" = S [123] := by decide +kernel
    have o2 : Str.ofString "}" = S [125] := by decide +kernel
    refine ⟨_, rfl, _, rfl, _, rfl, _, rfl, _, _, rfl, rfl, _, rfl, _, rfl, hz, rfl, _, rfl, ?_⟩
    rcases hc with ⟨rfl, q⟩ | ⟨hp, rfl, q⟩
    · rw [mid_app (p := pre) (z := [123, 125]) rfl (by simp), ob, decide_eq_true rfl]
      exact iteT (q _ (Same.refl _))
    · have hx2 : 2 ≤ x.length := by rw [hp.length_eq]; exact hg.lo
      have hx4 : x.length ≤ 4 := by rw [hp.length_eq]; exact hg.hi
      obtain ⟨c, r, rfl⟩ : ∃ c r, x = c :: r := by
        cases x with
        | nil => cases hx2
        | cons c r => exact ⟨c, r, rfl⟩
      have hcaz := hg.az c (hp.mem_iff.mp (List.mem_cons_self ..))
      have e1 : Txt.slice (S (pre ++ ([123] ++ (c :: r) ++ [125]) ++ post)) (some (pre.length : Int)) (some ((pre.length : Int) + 2)) = S [123, c] := by
        have e : pre ++ ([123] ++ (c :: r) ++ [125]) ++ post = pre ++ [123, c] ++ (r ++ [125] ++ post) := by simp
        rw [e]
        exact mid_app rfl (by simp)
      rw [e1, ob, decide_eq_false (fun e => by
        have := S_inj (V.str.inj e)
        injection this with _ h
        injection h with h
        omega)]
      have hzg : (S gs).length ≤ sizeLine := by rw [S_len]; exact small (by have := hg.hi; omega)
      refine iteF ⟨_, rfl, _, _, rfl, rfl, _, rfl, _, rfl, hzg, _, _, rfl, rfl, ?_⟩
      have hat : (pre ++ ([123] ++ (c :: r) ++ [125]) ++ post)[pre.length]? = some 123 := by simp
      refine ⟨_, rfl, _, rfl, _, _, 123, rfl, rfl, hz, atI_nat hat, rfl, _, rfl, ?_⟩
      rw [o1, decide_eq_true rfl]
      refine iteT ?_
      have hpl := hp.length_eq
      have hll : ((S gs).length : Int) = (((c :: r).length : Nat) : Int) := by rw [S_len, hpl]
      rw [hll]
      have e2 : Txt.slice (S (pre ++ ([123] ++ (c :: r) ++ [125]) ++ post)) (some ((pre.length : Int) + 1 + (((c :: r).length : Nat) : Int))) (some ((pre.length : Int) + 1 + (((c :: r).length : Nat) : Int) + 1)) = S [125] := by
        have e : pre ++ ([123] ++ (c :: r) ++ [125]) ++ post = (pre ++ [123] ++ (c :: r)) ++ [125] ++ post := by simp
        rw [e]
        refine mid_app ?_ ?_
        · simp only [List.length_append, List.length_singleton]
          omega
        · simp only [List.length_append, List.length_singleton]
          omega
      refine ⟨_, rfl, _, rfl, _, rfl, _, rfl, _, _, rfl, rfl, _, rfl, _, rfl, hz, rfl, _, rfl, ?_⟩
      rw [e2, o2, decide_eq_true rfl]
      refine iteT ?_
      have e3 : Txt.slice (S (pre ++ ([123] ++ (c :: r) ++ [125]) ++ post)) (some ((pre.length : Int) + 1)) (some ((pre.length : Int) + 1 + (((c :: r).length : Nat) : Int))) = S (c :: r) := by
        have e : pre ++ ([123] ++ (c :: r) ++ [125]) ++ post = (pre ++ [123]) ++ (c :: r) ++ ([125] ++ post) := by simp
        rw [e]
        refine mid_app ?_ ?_
        · simp only [List.length_append, List.length_singleton]
          omega
        · simp only [List.length_append, List.length_singleton]
          omega
      have gaz : ∀ d ∈ gs, d < 128 := fun d hd => by have := hg.az d hd; omega
      refine ⟨_, rfl, _, rfl, _, rfl, _, _, rfl, rfl, _, rfl, _, rfl, _, rfl, _, rfl, hz, ?_⟩
      rw [e3]
      refine ⟨gs, c :: r, rfl, by have := hg.hi; omega, by omega, gaz, (fun d hd => gaz d (hp.mem_iff.mp hd)), fun H1 s1 => ⟨_, rfl, ?_⟩⟩
      rw [decide_eq_true hp]
      refine iteT ⟨_, rfl, _, rfl, hzg, _, _, rfl, rfl, ?_⟩
      have hgl : ((S gs).length : Int) = (gs.length : Int) := by rw [S_len]
      rw [hgl]
      exact q _ s1
abbrev sRd : Stmt := topS 24
theorem scRd : FnScope ["letters", "text", "row", "at", "width"] ["letters", "text"] (defScope sRd) := ⟨rfl, rfl, rfl, by decide +kernel, rfl, by decide +kernel, by decide +kernel⟩
theorem ok_rd {f f1 : Addr} {fd fd1 : FuncData} (F : Fun K "read_row" "read_row" sRd f fd) (ml : mg "len" = none) (c1 : Cl P w K mg base "blank_width" 2 ["letters", "text", "at"] spBw f1 fd1) (mE : ∃ t, mg "EMPTY_TEXT" = some (.str "-" t)) :
    FnOk P w K mg base CX0 3 f fd ["letters", "text"] spRd := by
  obtain ⟨tE, mE⟩ := mE
  refine F.ok scRd (fun vs H Q E h => ?_) (fun cdv A outer s H vs Q E hr h => ?_)
  · obtain ⟨gs, t, its, rfl, _⟩ := h
    rfl
  · obtain ⟨gs, t, its, rfl, hg, hl, hrd, q⟩ := h
    refine ⟨_, pss_cons (ps_if (pt_cmpR op_eq (pv 1) (pe_glob (v := .str (Str.ofString "-")) (by rfl) mE ⟨_, rfl⟩) (nomark _)) (pss_one (ps_ret (pe_lst pa_nil))) pss_nil)
      (pss_cons (ps_if (pt_cmpR op_eq (pv 1) pe_str (nomark _)) pss_never pss_nil)
      (pss_cons (ps_set (i := 2) scRd.nd rfl (.inl rfl) (pe_lst pa_nil))
      (pss_cons (ps_set (i := 3) scRd.nd rfl (.inl rfl) pe_int)
      (pss_cons (ps_while PassesOwn.never (pt_cmpR op_lt (pv 3) (pe_callB call_len_str (by rfl) ml PySem.boot_len (pa_cons (pv 1) pa_nil)) (nomark _))
        (pss_one (ps_if (pt_cmpR op_in_sign (pe_ix ix_str (pv 1) (pv 3) (fun _ _ => rfl)) (pv 0) rfl)
          (pss_cons (ps_expr (pe_bm PySem.F.plainAttrs_list PySem.F.slot_list_append PySem.F.type_list_append mt_append (pv 2) (pa_cons (pe_ix ix_str (pv 1) (pv 3) (fun _ _ => rfl)) pa_nil)))
            (pss_one (ps_set (i := 3) scRd.nd rfl (.inl rfl) (pe_op op_add (pv 3) pe_int))))
          (pss_cons (ps_set (i := 4) scRd.nd rfl (.inl rfl) (pe_cl c1 hr (by decide) (by rfl) (pa_cons (pv 0) (pa_cons (pv 1) (pa_cons (pv 3) pa_nil)))))
          (pss_cons (ps_if (pt_cmpR op_eq (pv 4) pe_int (nomark _)) pss_never pss_nil)
          (pss_cons (ps_expr (pe_bm PySem.F.plainAttrs_list PySem.F.slot_list_append PySem.F.type_list_append mt_append (pv 2) (pa_cons
            (pe_ifExp (pt_cmpR op_eq (pv 4) pe_int (nomark _)) (pv 0) (pe_slice C8.sl_txt (pv 1) (po_some (pe_op op_add (pv 3) pe_int)) (po_some (pe_op op_sub (pe_op op_add (pv 3) (pv 4)) pe_int)))) pa_nil)))
            (pss_one (ps_set (i := 3) scRd.nd rfl (.inl rfl) (pe_op op_add (pv 3) (pv 4))))))))))
      (pss_one (ps_ret (pv 2))))))), ?_⟩
    have ob : Str.ofString "-" = S [45] := by decide +kernel
    refine ⟨_, rfl, rfl, _, rfl, ?_⟩
    rw [ob]
    rcases hrd with ⟨rfl, rfl⟩ | ⟨hne, zs, hf, rfl⟩
    · rw [decide_eq_true rfl]
      refine iteT ⟨Nat.zero_le _, fun p np => ?_⟩
      exact q _ p (same_new np) np upd_same
    obtain ⟨c0, r0, hz0, hc0⟩ : ∃ c r, zs.flatten = c :: r ∧ c ≠ 45 := by
      cases hf with
      | nil => exact absurd rfl hne
      | cons h1 h2 =>
        obtain ⟨c, r, e, h⟩ := form_head hg h1
        exact ⟨c, r ++ _, by rw [List.flatten_cons, e]; rfl, h⟩
    rw [decide_eq_false (fun e => by
      have := S_inj (V.str.inj e)
      rw [hz0] at this
      exact hc0 (List.cons.inj this).1)]
    refine iteF ⟨_, rfl, rfl, _, rfl, ?_⟩
    rw [empty_S, decide_eq_false (fun e => by
      have := S_inj (V.str.inj e)
      rw [hz0] at this
      cases this)]
    refine iteF ⟨Nat.zero_le _, fun D nD => ?_⟩
    have hz : (S zs.flatten).length ≤ sizeLine := by rw [S_len]; exact small hl
    have zl : ((S zs.flatten).length : Int) = (zs.flatten.length : Int) := by rw [S_len]
    have g123 : 123 ∉ gs := fun h => by have := hg.az _ h; omega
    refine ⟨fun m σ H' => ∃ dn its' zs' pre w, its = dn ++ its' ∧ Forms gs its' zs' ∧ zs.flatten = pre ++ zs'.flatten ∧ σ = [some (tx gs), some (tx zs.flatten), some (.ref D), some (.int (pre.length : Int)), w] ∧ Same H H' ∧ H' D = some (.lst (dn.map tx)) ∧ dn.length ≤ pre.length ∧ m = its'.length,
      ⟨its.length, [], its, zs, [], none, rfl, hf, rfl, rfl, same_new nD, upd_same, Nat.le_refl _, rfl⟩, ?_⟩
    rintro m σ H' ⟨dn, its', zs', pre, w, e1, hf', e2, rfl, s1, hD, hdn, rfl⟩
    refine ⟨_, rfl, _, rfl, _, rfl, hz, _, _, rfl, rfl, _, rfl, ?_⟩
    rw [zl]
    have e2l := congrArg List.length e2
    rw [List.length_append] at e2l
    cases hf' with
    | nil =>
      rw [decide_eq_false (by rw [e2l]; show ¬ (pre.length : Int) < ((pre.length + 0 : Nat) : Int); omega)]
      refine iteF ⟨_, rfl, ?_⟩
      rw [List.append_nil] at e1
      rw [← e1] at hD
      exact q _ _ s1 nD hD
    | @cons x z its2 zs2 h1 h2 =>
      have hzn : 0 < z.length := List.length_pos_iff.mpr (form_ne h1)
      rw [List.flatten_cons] at e2 e2l
      rw [List.length_append] at e2l
      rw [decide_eq_true (by omega)]
      have e3 : zs.flatten = pre ++ z ++ zs2.flatten := by rw [e2, List.append_assoc]
      have dnl : (dn.map tx).length < sizeLine := by rw [List.length_map]; exact small1000 (by omega)
      refine iteT ⟨fun σ' H'' => ∃ w', σ' = [some (tx gs), some (tx zs.flatten), some (.ref D), some (.int ((pre ++ z).length : Int)), w'] ∧ Same H H'' ∧ H'' D = some (.lst ((dn ++ [x]).map tx)),
        fun σ' H'' ⟨w', ea, eb, ec⟩ => ⟨its2.length, by show _ < its2.length + 1; omega, dn ++ [x], its2, zs2, pre ++ z, w', by rw [e1]; simp, h2, e3, ea, eb, ec, by rw [List.length_append, List.length_append]; show _ + 1 ≤ _; omega, rfl⟩, ?_⟩
      obtain ⟨c, zr, hzc⟩ : ∃ c r, z = c :: r := by
        obtain ⟨c, r, e, _⟩ := form_head hg h1
        exact ⟨c, r, e⟩
      have hat : (zs.flatten)[pre.length]? = some c := by rw [e3, hzc]; simp
      refine ⟨_, rfl, _, rfl, _, _, c, rfl, rfl, hz, atI_nat hat, _, rfl, c, _, rfl, rfl, _, rfl, ?_⟩
      show (if decide (c ∈ gs) = true then _ else _)
      cases h1 with
      | one hc =>
        obtain ⟨rfl, _⟩ := List.cons.inj hzc
        rw [decide_eq_true hc]
        refine iteT ⟨_, rfl, .inl ⟨rfl, _, .inl (.inl hD)⟩, _, rfl, _, rfl, _, _, _, rfl, rfl, hz, atI_nat hat, D, _, _, rfl, rfl, hD, dnl, ?_⟩
        refine ⟨_, rfl, _, _, rfl, rfl, ?_⟩
        refine ⟨w, ?_, same_put s1 nD, ?_⟩
        · rw [List.length_append]
          rfl
        · rw [upd_same, List.map_append]
          rfl
      | turn hp =>
        obtain ⟨rfl, _⟩ := List.cons.inj hzc
        rw [decide_eq_false g123]
        have hxl := hp.length_eq
        have hx2 : 2 ≤ x.length := by rw [hxl]; exact hg.lo
        refine iteF ⟨_, rfl, _, rfl, _, rfl, gs, pre, zs2.flatten, x, [123] ++ x ++ [125], by rw [e3]; rfl, hg, by rw [← e3]; exact hl, .inr ⟨hp, rfl, fun H3 s3 => ?_⟩⟩
        have hD3 := s3 _ _ hD
        refine ⟨_, rfl, rfl, _, rfl, ?_⟩
        rw [decide_eq_false (fun e => by have := V.int.inj e; omega)]
        refine iteF ⟨_, rfl, .inl ⟨rfl, _, .inl (.inl hD3)⟩, _, rfl, rfl, _, rfl, ?_⟩
        rw [decide_eq_false (fun e => by have := V.int.inj e; omega)]
        refine iteF ?_
        have e4 : Txt.slice (S zs.flatten) (some ((pre.length : Int) + 1)) (some ((pre.length : Int) + ((gs.length : Int) + 2) - 1)) = S x := by
          have e : zs.flatten = (pre ++ [123]) ++ x ++ ([125] ++ zs2.flatten) := by rw [e3]; simp
          rw [e]
          refine mid_app ?_ ?_
          · simp only [List.length_append, List.length_singleton]
            omega
          · simp only [List.length_append, List.length_singleton]
            omega
        refine ⟨_, rfl, _, rfl, _, _, rfl, rfl, _, rfl, _, rfl, _, rfl, _, _, rfl, rfl, _, _, rfl, rfl, _, rfl, _, rfl, hz, D, _, _, rfl, rfl, hD3, dnl, ?_⟩
        rw [e4]
        refine ⟨_, rfl, _, rfl, _, _, rfl, rfl, ?_⟩
        refine ⟨some (.int ((gs.length : Int) + 2)), ?_, same_put (s1.trans s3) nD, ?_⟩
        · have e : ((pre ++ ([123] ++ x ++ [125])).length : Int) = (pre.length : Int) + ((gs.length : Int) + 2) := by
            simp only [List.length_append, List.length_singleton]
            omega
          rw [e]
          rfl
        · rw [upd_same, List.map_append]
          rfl
      | plain =>
        obtain ⟨rfl, _⟩ := List.cons.inj hzc
        rw [decide_eq_false g123]
        refine iteF ⟨_, rfl, _, rfl, _, rfl, gs, pre, zs2.flatten, [], [123, 125], by rw [e3]; rfl, hg, by rw [← e3]; exact hl, .inl ⟨rfl, fun H3 s3 => ?_⟩⟩
        have hD3 := s3 _ _ hD
        refine ⟨_, rfl, rfl, _, rfl, ?_⟩
        rw [decide_eq_false (fun e => by have := V.int.inj e; omega)]
        refine iteF ⟨_, rfl, .inl ⟨rfl, _, .inl (.inl hD3)⟩, _, rfl, rfl, _, rfl, ?_⟩
        rw [decide_eq_true rfl]
        refine iteT ⟨_, rfl, D, _, _, rfl, rfl, hD3, dnl, ?_⟩
        refine ⟨_, rfl, _, rfl, _, _, rfl, rfl, ?_⟩
        refine ⟨some (.int 2), ?_, same_put (s1.trans s3) nD, ?_⟩
        · have e : ((pre ++ [123, 125]).length : Int) = (pre.length : Int) + 2 := by
            simp only [List.length_append]
            rfl
          rw [e]
          rfl
        · rw [upd_same, List.map_append]
          rfl
abbrev sCheckL : Stmt := topS 14
theorem scCheckL : FnScope ["letters", "at", "letter"] ["letters"] (defScope sCheckL) :=
  ⟨rfl, rfl, rfl, by decide +kernel, rfl, by decide +kernel, by decide +kernel⟩
theorem ok_checkLn {f : Addr} {fd : FuncData} (F : Fun K "check_letters" "check_letters" sCheckL f fd)
    (me : mg "enumerate" = none) (ml : mg "len" = none) (mL : ∃ t, mg "LEAST_LETTERS" = some (.int 2 t)) (mM : ∃ t, mg "MOST_LETTERS" = some (.int 4 t)) (mA : ∃ t, mg "LOWERCASE" = some (.str "abcdefghijklmnopqrstuvwxyz" t)) :
    FnOk P w K mg base CX0 1 f fd ["letters"] spCLn := by
  obtain ⟨tL, mL⟩ := mL
  obtain ⟨tM, mM⟩ := mM
  obtain ⟨tA, mA⟩ := mA
  refine F.ok scCheckL (fun vs H Q E h => ?_) (fun cdv A outer s H vs Q E hr h => ?_)
  · obtain ⟨cs, rfl, _⟩ := h
    rfl
  · obtain ⟨cs, rfl, hg, q⟩ := h
    refine ⟨_, pss_cons (ps_if (pt_not (pt_chain op_le op_le (pe_glob (v := .int 2) (by rfl) mL ⟨_, rfl⟩) (pe_callB call_len_str (by rfl) ml PySem.boot_len (pa_cons (pv 0) pa_nil)) (pe_glob (v := .int 4) (by rfl) mM ⟨_, rfl⟩)))
        pss_never pss_nil)
      (pss_one (ps_for PassesOwn.never rfl (pi_enS (by rfl) me (pa_cons (pv 0) pa_nil))
        (pg_tup rfl (pgs_cons (pg_name (i := 1) scCheckL.nd rfl (.inl rfl)) (pgs_cons (pg_name (i := 2) scCheckL.nd rfl (.inl rfl)) pgs_nil)))
        (pss_one (ps_if (PW.pt (pw_or (pt_cmpR op_notIn_sign (pv 2) (pe_glob (v := .str (Str.ofString "abcdefghijklmnopqrstuvwxyz")) (by rfl) mA ⟨_, rfl⟩) rfl) (pw_or1 (pt_cmpR op_in_sign (pv 2) (pe_slice C8.sl_txt (pv 0) po_none (po_some (pv 1))) rfl))))
          pss_never pss_nil)))), ?_⟩
    have hz : (S cs).length ≤ sizeLine := by rw [S_len]; exact small (by have := hg.hi; omega)
    have hbs : ((S cs).length : Int) = (cs.length : Int) := by rw [S_len]
    refine ⟨_, rfl, _, rfl, hz, _, _, rfl, rfl, _, rfl, ?_⟩
    rw [hbs]
    have h1 := hg.lo
    have h2 := hg.hi
    refine ite2 (fun h => ?_) (fun h => absurd (decide_eq_true (by omega)) h)
    refine ⟨_, _, rfl, rfl, _, rfl, ?_⟩
    have e : decide ((cs.length : Int) ≤ 4) = true := decide_eq_true (by omega)
    rw [e]
    refine iteF ?_
    refine ⟨_, rfl, _, rfl, for_it (walkE (z := S cs)) (fun i σ H' => ∃ v1 v2, σ = [some (.str (S cs)), v1, v2] ∧ Same H H')
      ⟨none, none, rfl, Same.refl _⟩ (fun _ _ _ _ _ => trivial) ?_ ?_⟩
    · rintro i x σ H' H'' hi ⟨v1, v2, rfl, s1⟩ ⟨T, c, rfl, nT, hc, rfl⟩
      have hc2 : cs[i]? = some c := by rw [← List.getElem?_toArray]; exact hc
      have s2 := s1.trans (same_new (o := .tup [.int (i : Nat), .str ⟨#[c]⟩]) nT)
      refine ⟨T, _, rfl, .inl (.inl upd_same), rfl, _, _, rfl, _, _, rfl, rfl, ?_⟩
      refine ⟨_, rfl, c, _, rfl, rfl, _, rfl, ?_⟩
      have hcm : c ∈ cs := List.mem_of_getElem? hc2
      have hl2 := hg.az c hcm
      have e : (!decide (c ∈ (Str.ofString "abcdefghijklmnopqrstuvwxyz").cps.toList)) = false := by
        rw [az]
        show (!decide (c ∈ List.range' 97 26)) = false
        rw [decide_eq_true (List.mem_range'.mpr ⟨c - 97, by omega, by omega⟩)]
        rfl
      rw [e]
      refine ⟨_, rfl, _, rfl, _, rfl, _, rfl, _, rfl, hz, c, _, rfl, rfl, _, rfl, ?_⟩
      rw [slice_to (a := cs) (i := ((i : Nat) : Int)) (by omega)]
      show (if decide (c ∈ cs.take (((i : Nat) : Int).toNat)) = true then _ else _)
      rw [Int.toNat_natCast]
      have ht : cs.take (i + 1) = cs.take i ++ [c] := by rw [List.take_add_one, hc2]; rfl
      refine ite2 (fun hin => ?_) (fun hin => ⟨_, _, rfl, s2⟩)
      have nd2 : (cs.take i ++ [c]).Nodup := by
        rw [← ht]
        exact (List.take_sublist _ _).nodup hg.nd
      exact absurd rfl ((List.nodup_append.mp nd2).2.2 c (of_decide_eq_true hin) c (List.mem_singleton.mpr rfl))
    · rintro σ H' ⟨v1, v2, rfl, s1⟩
      exact q _ s1
abbrev sTi : Stmt := inClass (topS 31) 0
theorem scTi : FnScope ["self", "letters", "text"] ["self", "letters", "text"] (defScope sTi) := ⟨rfl, rfl, rfl, by decide +kernel, rfl, by decide +kernel, by decide +kernel⟩
theorem ok_ti {f f1 f2 C : Addr} {fd fd1 fd2 : FuncData} (F : Fun K "__init__" "Template.__init__" sTi f fd) (T : TmC K C) (mt : mg "tuple" = none)
    (c1 : Cl P w K mg base "check_letters" 1 ["letters"] spCLn f1 fd1) (c2 : Cl P w K mg base "read_row" 3 ["letters", "text"] spRd f2 fd2) :
    FnOk P w K mg base CX0 4 f fd ["self", "letters", "text"] (spTi C) := by
  refine F.ok scTi (fun vs H Q E h => ?_) (fun cdv A outer s H vs Q E hr h => ?_)
  · obtain ⟨x, dx, gs, t, its, rfl, _⟩ := h
    rfl
  · obtain ⟨x, dx, gs, t, its, rfl, hx, hg, hl, hrd, q⟩ := h
    refine ⟨_, pss_cons (ps_expr (pe_cl c1 hr (by decide) (by rfl) (pa_cons (pv 1) pa_nil)))
      (pss_cons (ps_fld (pv 0) (pv 1) (by rfl))
      (pss_one (ps_fld (pv 0) (pe_callTy call_tuple_of (by rfl) mt (by decide +kernel) (pa_cons (pe_cl c2 hr (by decide) (by rfl) (pa_cons (pv 1) (pa_cons (pv 2) pa_nil))) pa_nil)) (by rfl)))), ?_⟩
    refine ⟨_, rfl, gs, rfl, hg, fun H1 s1 => ?_⟩
    refine ⟨_, rfl, _, rfl, x, C, dx, _, rfl, s1 _ _ hx, T.cls, T.na, (by show 0 < 1000; decide), ?_⟩
    refine ⟨_, rfl, _, rfl, gs, t, its, rfl, hg, hl, hrd, fun H2 p s2 np hp => ?_⟩
    refine ⟨p, _, rfl, .inl ⟨.inl (.inl hp), fun l nl => ?_⟩⟩
    have h2 := s2 _ _ (upd_same (H := H1) (a := x) (o := .ins C dx (putF "alphabet" (tx gs) [])))
    have nxl : x ≠ l := ne_of_none h2 nl
    refine ⟨_, rfl, x, C, dx, _, rfl, by rw [upd_ne nxl]; exact h2, T.cls, T.np, (by show 1 < 1000; decide), ?_⟩
    refine q _ (fun b o nb e => ?_) ⟨dx, l, upd_same, by rw [upd_ne nxl.symm, upd_same]⟩
    rw [upd_ne nb]
    refine same_new nl _ _ (s2 _ _ ?_)
    rw [upd_ne nb]
    exact s1 _ _ e
/-- Template(letters, text) -/
theorem tm_mk {C : Addr} {σ : L2.St} {H : Hp} {Q : VK} {ta : TA} {gs t : List Nat} {its : List (List Nat)} (h : ∀ k : List V → Hp → Prop, (∀ H1, Same H H1 → k [tx gs, tx t] H1) → ta σ H k) (hg : Good gs) (hl : t.length ≤ 1000) (hrd : Rd gs its t)
    (q : ∀ H' p, Same H H' → H p = none → Tm C H' p gs its → Q (.ref p) H') : tMake C (spTi C) [] E0 ta σ H Q := by
  refine h _ fun H1 s1 x dx nx nd ne => ?_
  refine ⟨x, dx, gs, t, its, rfl, upd_same, hg, hl, hrd, fun H2 k tm => ⟨rfl, ?_⟩⟩
  have hn : H x = none := by
    cases e : H x with
    | none => rfl
    | some o => rw [s1 _ _ e] at nx; cases nx
  refine q _ _ (fun b o e => ?_) hn tm
  have e1 := s1 _ _ e
  refine k b o (ne_of_none e1 nx) ?_
  rw [upd_ne (ne_of_none e1 nx), upd_ne (ne_of_none e1 nd)]
  exact e1
abbrev sRow : Stmt := inClass (topS 31) 6
theorem scRow : FnScope ["self"] ["self"] (defScope sRow) := ⟨rfl, rfl, rfl, by decide +kernel, rfl, by decide +kernel, by decide +kernel⟩
abbrev sFi : Stmt := inClass (topS 31) 9
theorem scFi : FnScope ["self", "text"] ["self", "text"] (defScope sFi) := ⟨rfl, rfl, rfl, by decide +kernel, rfl, by decide +kernel, by decide +kernel⟩
theorem ok_fi {f f1 f2 C : Addr} {fd fd1 fd2 : FuncData} (F : Fun K "fill" "Template.fill" sFi f fd) (T : TmC K C)
    (c1 : Cl P w K mg base "check_text" 1 ["letters", "text"] spCk f1 fd1) (c2 : Cl P w K mg base "put_row" 4 ["letters", "row", "inner"] (spPut K) f2 fd2) :
    FnOk P w K mg base CX0 5 f fd ["self", "text"] (spFi C) := by
  refine F.ok scFi (fun vs H Q E h => ?_) (fun cdv A outer s H vs Q E hr h => ?_)
  · obtain ⟨a, gs, its, xs, rfl, _⟩ := h
    rfl
  · obtain ⟨a, gs, its, xs, rfl, ⟨dx, p, ha, hp⟩, hg, hR, hl, hxl, hxm, q⟩ := h
    refine ⟨_, pss_cons (ps_expr (pe_cl c1 hr (by decide) (by rfl) (pa_cons (pe_fld (pv 0) (by rfl)) (pa_cons (pv 1) pa_nil))))
      (pss_one (ps_ret (pe_join pe_str (pe_cl c2 hr (by decide) (by rfl) (pa_cons (pe_fld (pv 0) (by rfl)) (pa_cons (pe_fld (pv 0) (by rfl)) (pa_cons (pe_lst (pa_cons (pv 1) pa_nil)) pa_nil))))))), ?_⟩
    refine ⟨_, rfl, a, C, dx, _, _, rfl, ha, T.cls, T.na, rfl, _, rfl, gs, xs, rfl, hxm, fun H1 s1 => ?_⟩
    have ha1 := s1 _ _ ha
    have hp1 := s1 _ _ hp
    refine ⟨⟨_, rfl⟩, _, rfl, a, C, dx, _, _, rfl, ha1, T.cls, T.na, rfl, _, rfl, a, C, dx, _, _, rfl, ha1, T.cls, T.np, rfl, _, rfl, (by show 1 ≤ sizeLine; decide), fun l nl => ?_⟩
    have s2 := same_new (o := .lst [tx xs]) nl
    refine ⟨gs, p, l, its, [xs], rfl, hg.nd, by have := hg.hi; omega, hR, .inr (.inl (.inl (s2 _ _ hp1))), hl, .inl (.inl (.inl upd_same)), (by show 1 ≤ 900; decide), ?_, fun H3 p3 s3 np3 hp3 => ?_⟩
    · intro x hx
      rw [List.mem_singleton.mp hx]
      exact ⟨hxl, hxm⟩
    · refine ⟨_, p3, (putL gs its [xs]).map S, rfl, rfl, .inl (.inl (.inl ?_)), ?_, ?_⟩
      · rw [hp3]
        simp
      · rw [sum_len]
        have h1 : (putL gs its [xs]).length ≤ its.length * 1 := put_len (Nat.le_refl _) (Nat.le_refl _)
        have h2 : ((putL gs its [xs]).map id).flatten.length ≤ (putL gs its [xs]).length * 1000 := flat_len (f := id) (m := 1000) fun y hy => by
          unfold putL at hy
          obtain ⟨l2, hl2, hy2⟩ := List.mem_flatten.mp hy
          obtain ⟨x, hx, rfl⟩ := List.mem_map.mp hl2
          split at hy2
          · obtain ⟨z, hz, rfl⟩ := List.mem_map.mp hy2
            rw [List.mem_singleton.mp hz]
            show (xs.map _).length ≤ 1000
            rw [List.length_map]
            exact hxl
          · rw [List.mem_singleton.mp hy2]
            show x.length ≤ 1000
            have := row_len hg hR x hx
            omega
        rw [List.map_id] at h2
        show _ + _ * 0 ≤ _
        omega
      · rw [joinT]
        exact q _ ((s1.trans s2).trans s3)
abbrev sWr : Stmt := inClass (topS 31) 14
theorem scWr : FnScope ["self", "row"] ["self", "row"] (defScope sWr) := ⟨rfl, rfl, rfl, by decide +kernel, rfl, by decide +kernel, by decide +kernel⟩
theorem ok_wr {f f1 fI C : Addr} {fd fd1 fdI : FuncData} (F : Fun K "with_row" "Template.with_row" sWr f fd) (T : TmC K C) (M : Mk K C fI) (gC : mg "Template" = some (.ref C))
    (GI : FnOk P w K mg base CX0 4 fI fdI ["self", "letters", "text"] (spTi C)) (bI : Binds K fdI ["self", "letters", "text"] []) (c1 : Cl P w K mg base "row_text" 3 ["letters", "row"] (spRt K) f1 fd1) :
    FnOk P w K mg base CX0 6 f fd ["self", "row"] (spWr K C) := by
  refine F.ok scWr (fun vs H Q E h => ?_) (fun cdv A outer s H vs Q E hr h => ?_)
  · obtain ⟨a, b, gs, its0, its, rfl, _⟩ := h
    rfl
  · obtain ⟨a, b, gs, its0, its, rfl, ⟨dx, p, ha, hp⟩, hg, hR, hb, hl, q⟩ := h
    refine ⟨_, pss_one (ps_ret (pe_make M GI hr (by rfl) gC bI .nil pass0 (pa_cons (pe_fld (pv 0) (by rfl)) (pa_cons (pe_cl c1 hr (by decide) (by rfl) (pa_cons (pe_fld (pv 0) (by rfl)) (pa_cons (pv 1) pa_nil))) pa_nil)))), ?_⟩
    refine tm_mk (gs := gs) (t := rTx gs its) (its := its) (fun k hk => ?_) hg (rTx_len hg hR hl) (rd_r hg.lo hR) q
    exact ⟨_, rfl, a, C, dx, _, _, rfl, ha, T.cls, T.na, rfl, _, rfl, a, C, dx, _, _, rfl, ha, T.cls, T.na, rfl, _, rfl, gs, b, its, rfl, by have := hg.hi; omega, hb, by omega, (fun x hx => by have := row_len hg hR x hx; omega), fun H1 s1 => hk _ s1⟩
abbrev sMi : Stmt := inClass (topS 31) 13
theorem scMi : FnScope ["self"] ["self"] (defScope sMi) := ⟨rfl, rfl, rfl, by decide +kernel, rfl, by decide +kernel, by decide +kernel⟩
theorem ok_mi {f f2 C : Addr} {fd fd2 : FuncData} (F : Fun K "mirrored" "Template.mirrored" sMi f fd) (T : TmC K C)
    (m2 : Meth K C "with_row" f2) (GW : FnOk P w K mg base CX0 6 f2 fd2 ["self", "row"] (spWr K C)) (bW : Binds K fd2 ["self", "row"] []) :
    FnOk P w K mg base CX0 7 f fd ["self"] (spMi C) := by
  refine F.ok scMi (fun vs H Q E h => ?_) (fun cdv A outer s H vs Q E hr h => ?_)
  · obtain ⟨a, gs, its, rfl, _⟩ := h
    rfl
  · obtain ⟨a, gs, its, rfl, ⟨dx, p, ha, hp⟩, hg, hR, hl, q⟩ := h
    refine ⟨_, pss_one (ps_ret (pe_meth (pv 0) T.cls m2 GW hr bW .nil pass0 (pa_cons (pe_backT (pe_fld (pv 0) (by rfl))) pa_nil))), ?_⟩
    refine ⟨_, rfl, a, dx, _, rfl, ha, by rfl, ?_⟩
    refine ⟨_, rfl, a, C, dx, _, _, rfl, ha, T.cls, T.np, rfl, p, _, rfl, .inl (.inl hp), fun l nl => ?_⟩
    have s1 := same_new (o := .tup (its.map tx).reverse) nl
    refine ⟨a, l, gs, its, its.reverse, rfl, ⟨dx, p, s1 _ _ ha, s1 _ _ hp⟩, hg, row_rev hR, .inr (.inl (.inl ?_)), by rw [List.length_reverse]; exact hl, fun H2 r s2 nr tm => ?_⟩
    · rw [upd_same, List.map_reverse]
    · have hn : H r = none := by
        cases e : H r with
        | none => rfl
        | some o => rw [s1 _ _ e] at nr; cases nr
      exact q _ _ (s1.trans s2) hn tm
abbrev sPb : Stmt := inClass (topS 31) 4
theorem scPb : FnScope ["self", "item"] ["self"] (defScope sPb) := ⟨rfl, rfl, rfl, by decide +kernel, rfl, by decide +kernel, by decide +kernel⟩
theorem ok_pb {f f1 C : Addr} {fd fd1 : FuncData} (F : Fun K "blanks" "Template.blanks" sPb f fd) (T : TmC K C) (ml : mg "len" = none) (c1 : Cl P w K mg base "is_blank" 1 ["item"] spBk f1 fd1) :
    FnOk P w K mg base CX0 2 f fd ["self"] (spPb C) := by
  refine F.ok scPb (fun vs H Q E h => ?_) (fun cdv A outer s H vs Q E hr h => ?_)
  · obtain ⟨a, gs, its, rfl, _⟩ := h
    rfl
  · obtain ⟨a, gs, its, rfl, ⟨dx, p, ha, hp⟩, hl, hx, q⟩ := h
    refine ⟨_, pss_one (ps_ret (pe_callB call_len (by rfl) ml PySem.boot_len (pa_cons (pe_lc (own := [("item", 1)]) (g := gName 1) rfl scPb.nd (pi_tup (pe_fld (pv 0) (by rfl)))
        (blkOk_by (N := ["self", "item"]) (sc := defScope sPb) (by decide +kernel))
        (fun _ _ _ _ _ => pg_name (i := 1) scPb.nd rfl (Or.inl rfl))
        (fun _ _ _ _ _ => pts_one (pt_val (pe_cl c1 hr (by decide) (by rfl) (pa_cons (pv 1) pa_nil))))
        (fun _ _ _ _ _ => pv 1)) pa_nil))), ?_⟩
    refine ⟨_, rfl, a, C, dx, _, _, rfl, ha, T.cls, T.np, rfl, p, rfl, ⟨_, .inl (.inl hp)⟩, fun D nD => ?_⟩
    refine lc_it (walk_tup (K := K) (a := p) (xs := its.map tx)) (fun i H' => Same H H' ∧ H' D = some (.lst ((blL (its.take i)).map tx))) ⟨same_new nD, upd_same⟩ (fun _ _ _ h => .inl (.inl (h.1 _ _ hp))) ?_ ?_
    · rintro i y H' H'' hi ⟨s1, hD⟩ ⟨rfl, hy⟩
      obtain ⟨x, hx2, rfl⟩ := get_tx hy
      have hx4 := hx x (List.mem_of_getElem? hx2)
      have ek : its.take (i + 1) = its.take i ++ [x] := by rw [List.take_add_one, hx2]; rfl
      refine ⟨rfl, _, rfl, x, rfl, by omega, fun H3 s3 => ⟨_, rfl, ?_⟩⟩
      refine ite2 (fun h => ?_) (fun h => ?_)
      · have h1 : 1 < x.length := of_decide_eq_true h
        refine ⟨_, rfl, _, s3 _ _ hD, ?_, same_put (s1.trans s3) nD, ?_⟩
        · rw [List.length_map]
          exact small1000 (by have := blL_len (l := its.take i); rw [List.length_take] at this; omega)
        · rw [upd_same, ek, blL_snoc, if_pos h1, List.map_append]
          rfl
      · have h1 : ¬ 1 < x.length := fun h1 => h (decide_eq_true h1)
        refine ⟨s1.trans s3, ?_⟩
        rw [ek, blL_snoc, if_neg h1, List.append_nil]
        exact s3 _ _ hD
    · rintro H' ⟨s1, hD⟩
      rw [List.length_map, List.take_length] at hD
      exact ⟨_, _, rfl, .inl ⟨_, .inl (.inl hD), (List.length_map ..).symm⟩, q _ s1⟩
abbrev sPs : Stmt := inClass (topS 31) 5
theorem scPs : FnScope ["self", "item"] ["self"] (defScope sPs) := ⟨rfl, rfl, rfl, by decide +kernel, rfl, by decide +kernel, by decide +kernel⟩
theorem ok_psz {f f1 C : Addr} {fd fd1 : FuncData} (F : Fun K "size" "Template.size" sPs f fd) (T : TmC K C) (ml : mg "len" = none) (c1 : Cl P w K mg base "is_blank" 1 ["item"] spBk f1 fd1) :
    FnOk P w K mg base CX0 2 f fd ["self"] (spPs C) := by
  refine F.ok scPs (fun vs H Q E h => ?_) (fun cdv A outer s H vs Q E hr h => ?_)
  · obtain ⟨a, gs, its, rfl, _⟩ := h
    rfl
  · obtain ⟨a, gs, its, rfl, ⟨dx, p, ha, hp⟩, hl, hx, q⟩ := h
    refine ⟨_, pss_one (ps_ret (pe_callB call_len (by rfl) ml PySem.boot_len (pa_cons (pe_lc (own := [("item", 1)]) (g := gName 1) rfl scPs.nd (pi_tup (pe_fld (pv 0) (by rfl)))
        (blkOk_by (N := ["self", "item"]) (sc := defScope sPs) (by decide +kernel))
        (fun _ _ _ _ _ => pg_name (i := 1) scPs.nd rfl (Or.inl rfl))
        (fun _ _ _ _ _ => pts_one (pt_not (pt_val (pe_cl c1 hr (by decide) (by rfl) (pa_cons (pv 1) pa_nil)))))
        (fun _ _ _ _ _ => pv 1)) pa_nil))), ?_⟩
    refine ⟨_, rfl, a, C, dx, _, _, rfl, ha, T.cls, T.np, rfl, p, rfl, ⟨_, .inl (.inl hp)⟩, fun D nD => ?_⟩
    refine lc_it (walk_tup (K := K) (a := p) (xs := its.map tx)) (fun i H' => Same H H' ∧ H' D = some (.lst ((ltL (its.take i)).map tx))) ⟨same_new nD, upd_same⟩ (fun _ _ _ h => .inl (.inl (h.1 _ _ hp))) ?_ ?_
    · rintro i y H' H'' hi ⟨s1, hD⟩ ⟨rfl, hy⟩
      obtain ⟨x, hx2, rfl⟩ := get_tx hy
      have hx4 := hx x (List.mem_of_getElem? hx2)
      have ek : its.take (i + 1) = its.take i ++ [x] := by rw [List.take_add_one, hx2]; rfl
      refine ⟨rfl, _, rfl, x, rfl, by omega, fun H3 s3 => ⟨_, rfl, ?_⟩⟩
      by_cases h1 : 1 < x.length
      · rw [decide_eq_true h1]
        refine iteF ⟨s1.trans s3, ?_⟩
        rw [ek, ltL_snoc, if_pos h1, List.append_nil]
        exact s3 _ _ hD
      · rw [decide_eq_false h1]
        refine iteT ⟨_, rfl, _, s3 _ _ hD, ?_, same_put (s1.trans s3) nD, ?_⟩
        · rw [List.length_map]
          exact small1000 (by have := ltL_len (l := its.take i); rw [List.length_take] at this; omega)
        · rw [upd_same, ek, ltL_snoc, if_neg h1, List.map_append]
          rfl
    · rintro H' ⟨s1, hD⟩
      rw [List.length_map, List.take_length] at hD
      exact ⟨_, _, rfl, .inl ⟨_, .inl (.inl hD), (List.length_map ..).symm⟩, q _ s1⟩
abbrev sLen : Stmt := inClass (topS 31) 10
theorem scLen : FnScope ["self", "size"] ["self", "size"] (defScope sLen) := ⟨rfl, rfl, rfl, by decide +kernel, rfl, by decide +kernel, by decide +kernel⟩
theorem ok_len {f f1 f2 p1 p2 C : Addr} {fd fd1 fd2 : FuncData} (F : Fun K "length" "Template.length" sLen f fd) (T : TmC K C) (P1 : PropOf K C "size" p1 f1) (P2 : PropOf K C "blanks" p2 f2)
    (G1 : FnOk P w K mg base CX0 2 f1 fd1 ["self"] (spPs C)) (G2 : FnOk P w K mg base CX0 2 f2 fd2 ["self"] (spPb C)) (b1 : Binds K fd1 ["self"] []) (b2 : Binds K fd2 ["self"] []) :
    FnOk P w K mg base CX0 4 f fd ["self", "size"] (spLn C) := by
  refine F.ok scLen (fun vs H Q E h => ?_) (fun cdv A outer s H vs Q E hr h => ?_)
  · obtain ⟨a, gs, its, n, rfl, _⟩ := h
    rfl
  · obtain ⟨a, gs, its, n, rfl, tm, hl, hx, hn, q⟩ := h
    refine ⟨_, pss_one (ps_ret (pe_op op_add (pe_prop (pv 0) T.cls P1 G1 hr b1 .nil pass0 (by rfl)) (pe_op op_mul (pe_prop (pv 0) T.cls P2 G2 hr b2 .nil pass0 (by rfl)) (pv 1)))), ?_⟩
    obtain ⟨dx, p, ha, hp⟩ := id tm
    refine ⟨_, rfl, a, dx, _, rfl, ha, a, gs, its, rfl, tm, hl, hx, fun H1 s1 => ?_⟩
    refine ⟨_, rfl, a, dx, _, rfl, s1 _ _ ha, a, gs, its, rfl, tm.same s1, hl, hx, fun H2 s2 => ?_⟩
    refine ⟨_, rfl, _, _, rfl, rfl, hn, _, _, rfl, rfl, q _ (s1.trans s2)⟩
abbrev sCS : Stmt := topS 15
theorem scCS : FnScope ["letters", "other"] ["letters", "other"] (defScope sCS) := ⟨rfl, rfl, rfl, by decide +kernel, rfl, by decide +kernel, by decide +kernel⟩
theorem ok_cs {f : Addr} {fd : FuncData} (F : Fun K "check_same_letters" "check_same_letters" sCS f fd) : FnOk P w K mg base CX0 1 f fd ["letters", "other"] spCS := by
  refine F.ok scCS (fun vs H Q E h => ?_) (fun cdv A outer s H vs Q E hr h => ?_)
  · obtain ⟨gs, rfl, _⟩ := h
    rfl
  · obtain ⟨gs, rfl, q⟩ := h
    refine ⟨_, pss_one (ps_if (pt_cmpR op_ne (pv 0) (pv 1) (nomark _)) pss_never pss_nil), ?_⟩
    exact ⟨_, rfl, _, rfl, rfl, _, rfl, iteNS rfl q⟩
abbrev sLr : Stmt := inClass (topS 31) 3
theorem scLr : FnScope ["self"] ["self"] (defScope sLr) := ⟨rfl, rfl, rfl, by decide +kernel, rfl, by decide +kernel, by decide +kernel⟩
theorem ok_lr {f C : Addr} {fd : FuncData} (F : Fun K "letters" "Template.letters" sLr f fd) (T : TmC K C) : FnOk P w K mg base CX0 1 f fd ["self"] (spLr C) := by
  refine F.ok scLr (fun vs H Q E h => ?_) (fun cdv A outer s H vs Q E hr h => ?_)
  · obtain ⟨a, gs, its, rfl, _⟩ := h
    rfl
  · obtain ⟨a, gs, its, rfl, ⟨dx, p, ha, hp⟩, q⟩ := h
    refine ⟨_, pss_one (ps_ret (pe_fld (pv 0) (by rfl))), ?_⟩
    exact ⟨_, rfl, a, C, dx, _, _, rfl, ha, T.cls, T.na, rfl, q⟩
abbrev sItems : Stmt := topS 76
theorem scItems : FnScope ["_law_rng", "_law_signs", "_law_most", "_law_found", "_law_k"] ["_law_rng", "_law_signs", "_law_most"] (defScope sItems) := ⟨rfl, rfl, rfl, by decide +kernel, rfl, by decide +kernel, by decide +kernel⟩
theorem ok_items {f f1 f2 f3 : Addr} {fd fd1 fd2 fd3 : FuncData} (F : Fun K "_law_items" "_law_items" sItems f fd) (mr : mg "range" = none)
    (c1 : Cl P w K mg base "_law_draw" 1 ["_law_rng", "_law_sides"] spDraw f1 fd1) (c2 : Cl P w K mg base "_law_turn" 2 ["_law_rng", "_law_signs"] spTurn f2 fd2) (c3 : Cl P w K mg base "_law_pick" 2 ["_law_rng", "_law_things"] (spPick K) f3 fd3) :
    FnOk P w K mg base CX0 3 f fd ["_law_rng", "_law_signs", "_law_most"] spItems := by
  refine F.ok scItems (fun vs H Q E h => ?_) (fun cdv A outer s H vs Q E hr h => ?_)
  · obtain ⟨r, gs, m, rfl, _⟩ := h
    rfl
  · obtain ⟨r, gs, m, rfl, hg, m0, m1, R, q⟩ := h
    refine ⟨_, pss_cons (ps_set (i := 3) scItems.nd rfl (.inl rfl) (pe_lst pa_nil))
      (pss_cons (ps_for PassesOwn.never rfl (pi_range1 rfl mr (pa_cons (pe_cl c1 hr (by decide) (by rfl) (pa_cons (pv 0) (pa_cons (pe_op op_add (pv 2) pe_int) pa_nil))) pa_nil)) (pg_name (i := 4) scItems.nd rfl (.inl rfl))
        (pss_one (ps_expr (pe_bm PySem.F.plainAttrs_list PySem.F.slot_list_append PySem.F.type_list_append mt_append (pv 3) (pa_cons
          (pe_ifExp (pt_cmpR op_eq (pe_cl c1 hr (by decide) (by rfl) (pa_cons (pv 0) (pa_cons pe_int pa_nil))) pe_int (nomark _)) (pe_cl c2 hr (by decide) (by rfl) (pa_cons (pv 0) (pa_cons (pv 1) pa_nil)))
            (pe_cl c3 hr (by decide) (by rfl) (pa_cons (pv 0) (pa_cons (pv 1) pa_nil)))) pa_nil)))))
      (pss_one (ps_ret (pv 3)))), ?_⟩
    refine ⟨Nat.zero_le _, fun D nD => ?_⟩
    have s0 := same_new (o := .lst []) nD
    obtain ⟨xr, er⟩ := R.ex
    have nDr : D ≠ r := (ne_of_none er nD).symm
    refine ⟨_, rfl, _, rfl, _, _, rfl, rfl, r, _, rfl, by omega, by omega, R.same s0, fun H1 k g1 k0 k1 => ?_⟩
    obtain ⟨n, rfl⟩ := Int.eq_ofNat_of_zero_le k0
    have G1 : Go r H H1 := Go.after R s0 g1
    refine ⟨_, rfl, by omega, by omega, ?_⟩
    refine for_range (lo := 0) (n := (n : Int).toNat)
      (fun i σ H' => ∃ v its, σ = [some (.ref r), some (tx gs), some (.int m), some (.ref D), v] ∧ Go r H H' ∧ H' D = some (.lst (its.map tx)) ∧ Row gs its ∧ its.length = i)
      ⟨none, [], rfl, G1, g1.1 _ _ nDr upd_same, (fun x hx => nomatch hx), rfl⟩ ?_ ?_
    · rintro i σ H' hi ⟨v, its, rfl, g, hD, hR, hl⟩
      refine ⟨_, rfl, .inl ⟨rfl, _, .inl (.inl hD)⟩, _, rfl, r, 2, rfl, by decide, by decide, g.rng, fun H2 d g2 d0 d1 => ?_⟩
      have hD2 := g2.1 _ _ nDr hD
      have dl : (its.map tx).length < sizeLine := by rw [List.length_map]; exact small1000 (by omega)
      refine ⟨rfl, _, rfl, ?_⟩
      refine ite2 (fun _ => ?_) (fun _ => ?_)
      · refine ⟨_, rfl, _, rfl, r, gs, rfl, by have := hg.hi; omega, g2.rng, fun H3 t g3 pt => ?_⟩
        refine ⟨D, _, _, rfl, rfl, g3.1 _ _ nDr hD2, dl, _, its ++ [t], rfl, ((g.trans g2).trans g3).put nD, ?_, fun x hx => ?_, by rw [List.length_append, hl]; rfl⟩
        · rw [upd_same, List.map_append]
          rfl
        · rcases List.mem_append.mp hx with h | h
          · exact hR x h
          · rw [List.mem_singleton.mp h]; exact .inr pt
      · refine ⟨_, rfl, _, rfl, r, _, rfl, g2.rng, .inr ⟨gs, rfl, by have := hg.lo; omega, by have := hg.hi; omega, fun H3 c g3 hc => ?_⟩⟩
        refine ⟨D, _, _, rfl, rfl, g3.1 _ _ nDr hD2, dl, _, its ++ [[c]], rfl, ((g.trans g2).trans g3).put nD, ?_, fun x hx => ?_, by rw [List.length_append, hl]; rfl⟩
        · rw [upd_same, List.map_append]
          rfl
        · rcases List.mem_append.mp hx with h | h
          · exact hR x h
          · rw [List.mem_singleton.mp h]; exact .inl ⟨c, hc, rfl⟩
    · rintro σ H' ⟨v, its, rfl, g, hD, hR, hl⟩
      exact ⟨_, rfl, q _ _ its g nD hD hR (by omega)⟩
abbrev sLx : Stmt := topS 77
theorem scLx : FnScope ["_law_signs", "_law_items_here", "_law_found", "_law_item"] ["_law_signs", "_law_items_here"] (defScope sLx) := ⟨rfl, rfl, rfl, by decide +kernel, rfl, by decide +kernel, by decide +kernel⟩
theorem ok_lx {f : Addr} {fd : FuncData} (F : Fun K "_law_text" "_law_text" sLx f fd) (ml : mg "len" = none) :
    FnOk P w K mg base CX0 1 f fd ["_law_signs", "_law_items_here"] (spLx K) := by
  refine F.ok scLx (fun vs H Q E h => ?_) (fun cdv A outer s H vs Q E hr h => ?_)
  · obtain ⟨gs, a, its, rfl, _⟩ := h
    rfl
  · obtain ⟨gs, a, its, rfl, hg, hR, hl, hs, q⟩ := h
    refine ⟨_, pss_cons (ps_set (i := 2) scLx.nd rfl (.inl rfl) (pe_join pe_str (pe_lc (own := [("_law_item", 3)]) (g := gName 3) (tt := tYes) rfl scLx.nd (pi_list (pv 1))
        (blkOk_by (N := ["_law_signs", "_law_items_here", "_law_found", "_law_item"]) (sc := defScope sLx) (by decide +kernel))
        (fun _ _ _ _ _ => pg_name (i := 3) scLx.nd rfl (Or.inl rfl)) (fun _ _ _ _ _ => pts_nil)
        (fun _ _ _ _ _ => pe_ifExp (pt_cmpR op_eq (pe_callB call_len_str (by rfl) ml PySem.boot_len (pa_cons (pv 3) pa_nil)) pe_int (nomark _)) (pv 3)
          (pe_ifExp (pt_cmpR op_eq (pv 3) (pv 0) (nomark _)) pe_str (pe_op op_add_str (pe_op op_add_str pe_str (pv 3)) pe_str))))))
      (pss_one (ps_ret (pe_ifExp (pt_cmpR (op_neD hr.units) (pv 1) (pe_lst pa_nil) (nomark _)) (pv 2) pe_str))), ?_⟩
    have o0 : Str.ofString "{}" = S [123, 125] := by decide +kernel
    have o1 : Str.ofString "{" = S [123] := by decide +kernel
    have o2 : Str.ofString "}" = S [125] := by decide +kernel
    refine ⟨⟨_, rfl⟩, _, rfl, a, rfl, ⟨_, hs⟩, fun D nD => ?_⟩
    refine lc_list (K := K) (a := a) (xs := its.map tx) (fun i H' => Same H H' ∧ H' D = some (.lst (((its.take i).map (iTx gs)).map tx))) ⟨same_new nD, upd_same⟩ (fun _ _ _ h => h.1.seq hs) ?_ ?_
    · rintro i y H' hy ⟨s1, hD⟩
      obtain ⟨x, hx2, rfl⟩ := get_tx hy
      have hxm := List.mem_of_getElem? hx2
      have hx4 := row_len hg hR x hxm
      have hx0 := row_pos hg hR x hxm
      have hzx : (S x).length ≤ sizeLine := by rw [S_len]; exact small (by omega)
      have dl : (((its.take i).map (iTx gs)).map tx).length < sizeLine := by
        rw [List.length_map, List.length_map, List.length_take]
        exact small1000 (by omega)
      have fin : ∀ z : List Nat, z = iTx gs x → ∃ acc, H' D = some (.lst acc) ∧ acc.length < sizeLine ∧ (Same H (upd H' D (.lst (acc ++ [tx z]))) ∧ upd H' D (.lst (acc ++ [tx z])) D = some (.lst (((its.take (i + 1)).map (iTx gs)).map tx))) := by
        rintro z rfl
        refine ⟨_, hD, dl, same_put s1 nD, ?_⟩
        rw [upd_same, List.take_add_one, hx2]
        simp
      refine ⟨rfl, _, rfl, _, rfl, hzx, rfl, _, rfl, ?_⟩
      by_cases h1 : x.length = 1
      · rw [decide_eq_true (by rw [S_len, h1]; rfl)]
        refine iteT ⟨_, rfl, fin x ?_⟩
        unfold iTx
        rw [if_neg (by omega)]
      · rw [decide_eq_false (fun e => h1 (by have := V.int.inj e; rw [S_len] at this; omega))]
        refine iteF ⟨_, rfl, _, rfl, rfl, _, rfl, ?_⟩
        by_cases h2 : x = gs
        · rw [decide_eq_true (by rw [h2]), o0]
          refine iteT (fin [123, 125] ?_)
          unfold iTx
          rw [if_pos (by omega), if_pos h2]
        · rw [decide_eq_false (fun e => h2 (S_inj (V.str.inj e)))]
          have e3 : S [123] ++ S x ++ S [125] = S ([123] ++ x ++ [125]) := by
            rw [show S [123] ++ S x = S ([123] ++ x) from S_cat _ _]
            exact S_cat _ _
          refine iteF ⟨_, rfl, _, _, rfl, rfl, ?_, _, _, rfl, rfl, ?_, ?_⟩
          · rw [o1, S_len, S_len]
            exact small (by show 1 + _ ≤ 1000; omega)
          · rw [o1, o2, show S [123] ++ S x = S ([123] ++ x) from S_cat _ _, S_len, S_len, List.length_append]
            exact small (by show 1 + _ + 1 ≤ 1000; omega)
          · rw [o1, o2, e3]
            refine fin _ ?_
            unfold iTx
            rw [if_pos (by omega), if_neg h2]
    · rintro H' ⟨s1, hD⟩
      rw [List.length_map, List.take_length] at hD
      refine ⟨_, D, (its.map (iTx gs)).map S, rfl, rfl, .inl (.inl (.inl ?_)), ?_, ?_⟩
      · rw [hD]
        simp
      · rw [sum_len]
        have := flat_len (f := iTx gs) (m := 6) (its := its) fun x hx => Nat.le_trans iTx_len (by have := row_len hg hR x hx; omega)
        show _ + _ * 0 ≤ _
        omega
      · rw [joinT]
        refine ⟨_, rfl, Nat.zero_le _, fun l nl => ?_⟩
        have s2 := same_new (o := .lst []) nl
        have ha : SqL K (upd H' l (.lst [])) a ((its.map S).map V.str) := by
          have := (s1.trans s2).seq hs
          rw [List.map_map]
          exact this
        have gaz : ∀ x ∈ its, ∀ k ∈ x, k < 128 := fun x hx k hk => by have := hg.az k (row_mem hR x hx k hk); omega
        refine ⟨_, _, .lst ha (dp_all its), .lst (.inl (.inl upd_same)) .nil, shp_tx gaz, by decide +kernel, ?_⟩
        rw [show PyData.eqv (.list (its.map fun c => PyData.str (S c))) (.list []) = decide (its = []) from eqvAll_tx its []]
        have qq := q _ (s1.trans s2)
        unfold rTx at qq
        by_cases h0 : its = []
        · rw [if_pos h0] at qq
          rw [decide_eq_true h0]
          exact ⟨false, rfl, iteF qq⟩
        · rw [if_neg h0] at qq
          rw [decide_eq_false h0]
          exact ⟨true, rfl, iteT ⟨_, rfl, qq⟩⟩
abbrev sLf : Stmt := topS 78
theorem scLf : FnScope ["_law_signs", "_law_items_here", "_law_shown", "_law_item"] ["_law_signs", "_law_items_here", "_law_shown"] (defScope sLf) := ⟨rfl, rfl, rfl, by decide +kernel, rfl, by decide +kernel, by decide +kernel⟩
theorem ok_lf {f f1 : Addr} {fd fd1 : FuncData} (F : Fun K "_law_fill" "_law_fill" sLf f fd) (ml : mg "len" = none) (c1 : Cl P w K mg base "_law_turned" 1 ["_law_signs", "_law_my_turn", "_law_shown"] spTd f1 fd1) :
    FnOk P w K mg base CX0 2 f fd ["_law_signs", "_law_items_here", "_law_shown"] (spLf K) := by
  refine F.ok scLf (fun vs H Q E h => ?_) (fun cdv A outer s H vs Q E hr h => ?_)
  · obtain ⟨gs, a, its, xs, rfl, _⟩ := h
    rfl
  · obtain ⟨gs, a, its, xs, rfl, hg, hR, hl, hs, hxl, hxm, q⟩ := h
    refine ⟨_, pss_one (ps_ret (pe_join pe_str (pe_lc (own := [("_law_item", 3)]) (g := gName 3) (tt := tYes) rfl scLf.nd (pi_list (pv 1))
        (blkOk_by (N := ["_law_signs", "_law_items_here", "_law_shown", "_law_item"]) (sc := defScope sLf) (by decide +kernel))
        (fun _ _ _ _ _ => pg_name (i := 3) scLf.nd rfl (Or.inl rfl)) (fun _ _ _ _ _ => pts_nil)
        (fun _ _ _ _ _ => pe_ifExp (pt_cmpR op_eq (pe_callB call_len_str (by rfl) ml PySem.boot_len (pa_cons (pv 3) pa_nil)) pe_int (nomark _)) (pv 3)
          (pe_cl c1 hr (by decide) (by rfl) (pa_cons (pv 0) (pa_cons (pv 3) (pa_cons (pv 2) pa_nil)))))))), ?_⟩
    refine ⟨⟨_, rfl⟩, _, rfl, a, rfl, ⟨_, hs⟩, fun D nD => ?_⟩
    refine lc_list (K := K) (a := a) (xs := its.map tx) (fun i H' => Same H H' ∧ H' D = some (.lst (((its.take i).map (lf1 gs xs)).map tx))) ⟨same_new nD, upd_same⟩ (fun _ _ _ h => h.1.seq hs) ?_ ?_
    · rintro i y H' hy ⟨s1, hD⟩
      obtain ⟨x, hx2, rfl⟩ := get_tx hy
      have hxi := List.mem_of_getElem? hx2
      have hx4 := row_len hg hR x hxi
      have hzx : (S x).length ≤ sizeLine := by rw [S_len]; exact small (by omega)
      have dl : (((its.take i).map (lf1 gs xs)).map tx).length < sizeLine := by
        rw [List.length_map, List.length_map, List.length_take]
        exact small1000 (by omega)
      have fin : ∀ (H4 : Hp) (z : List Nat), Same H' H4 → z = lf1 gs xs x → ∃ acc, H4 D = some (.lst acc) ∧ acc.length < sizeLine ∧ (Same H (upd H4 D (.lst (acc ++ [tx z]))) ∧ upd H4 D (.lst (acc ++ [tx z])) D = some (.lst (((its.take (i + 1)).map (lf1 gs xs)).map tx))) := by
        rintro H4 z s4 rfl
        refine ⟨_, s4 _ _ hD, dl, same_put (s1.trans s4) nD, ?_⟩
        rw [upd_same, List.take_add_one, hx2]
        simp
      refine ⟨rfl, _, rfl, _, rfl, hzx, rfl, _, rfl, ?_⟩
      by_cases h1 : x.length = 1
      · rw [decide_eq_true (by rw [S_len, h1]; rfl)]
        refine iteT ⟨_, rfl, fin _ x (Same.refl _) ?_⟩
        unfold lf1
        rw [if_pos h1]
      · rw [decide_eq_false (fun e => h1 (by have := V.int.inj e; rw [S_len] at this; omega))]
        have hxp : x.length = gs.length := by
          rcases hR x hxi with ⟨c, _, rfl⟩ | p
          · exact absurd rfl h1
          · exact p.length_eq
        refine iteF ⟨_, rfl, _, rfl, _, rfl, gs, x, xs, rfl, hg.nd, by have := hg.hi; omega, hxp, hxl, hxm, fun H4 s4 => ?_⟩
        refine fin _ _ s4 ?_
        unfold lf1
        rw [if_neg h1]
    · rintro H' ⟨s1, hD⟩
      rw [List.length_map, List.take_length] at hD
      refine ⟨_, D, (its.map (lf1 gs xs)).map S, rfl, rfl, .inl (.inl (.inl ?_)), ?_, ?_⟩
      · rw [hD]
        simp
      · rw [sum_len]
        have := flat_len (f := lf1 gs xs) (m := 1000) (its := its) fun x hx => by
          unfold lf1
          split
          · omega
          · rw [List.length_map]; exact hxl
        show _ + _ * 0 ≤ _
        omega
      · rw [joinT, lf_eq hg hR]
        exact q _ s1
abbrev sLAt : Stmt := topS 33
theorem scLAt : FnScope ["text", "place"] ["text", "place"] (defScope sLAt) := ⟨rfl, rfl, rfl, by decide +kernel, rfl, by decide +kernel, by decide +kernel⟩
theorem ok_lat {f : Addr} {fd : FuncData} (F : Fun K "letter_at" "letter_at" sLAt f fd) (ml : mg "len" = none) : FnOk P w K mg base CX0 1 f fd ["text", "place"] spLAt := by
  refine F.ok scLAt (fun vs H Q E h => ?_) (fun cdv A outer s H vs Q E hr h => ?_)
  · obtain ⟨a, i, rfl, _⟩ := h
    rfl
  · obtain ⟨a, i, rfl, hl, q⟩ := h
    refine ⟨_, pss_one (ps_ret (pe_ifExp (pt_cmpR op_lt (pv 1) (pe_callB call_len_str (by rfl) ml PySem.boot_len (pa_cons (pv 0) pa_nil)) (nomark _)) (pe_ix ix_str (pv 0) (pv 1) (fun _ _ => rfl)) pe_non)), ?_⟩
    have za : (S a).length ≤ sizeLine := by rw [S_len]; exact small hl
    refine ⟨_, rfl, _, rfl, _, rfl, za, _, _, rfl, rfl, _, rfl, ?_⟩
    rw [S_len]
    unfold ltV at q
    cases hc : a[i]? with
    | none =>
      rw [hc] at q
      have := List.getElem?_eq_none_iff.mp hc
      rw [decide_eq_false (by omega)]
      exact iteF q
    | some c =>
      rw [hc] at q
      have := (List.getElem?_eq_some_iff.mp hc).1
      rw [decide_eq_true (by omega)]
      exact iteT ⟨_, rfl, _, rfl, _, _, c, rfl, rfl, za, atI_nat hc, q⟩
abbrev sCSz : Stmt := topS 34
theorem scCSz : FnScope ["first", "second", "alike", "most", "middle"] ["first", "second"] (defScope sCSz) := ⟨rfl, rfl, rfl, by decide +kernel, rfl, by decide +kernel, by decide +kernel⟩
theorem ok_csz {f : Addr} {fd : FuncData} (F : Fun K "common_size" "common_size" sCSz f fd) (ml : mg "len" = none) (mm : mg "min" = none) : FnOk P w K mg base CX0 1 f fd ["first", "second"] spCSz := by
  refine F.ok scCSz (fun vs H Q E h => ?_) (fun cdv A outer s H vs Q E hr h => ?_)
  · obtain ⟨a, b, rfl, _⟩ := h
    rfl
  · obtain ⟨a, b, rfl, ha, hb, q⟩ := h
    refine ⟨_, pss_cons (ps_set (i := 2) scCSz.nd rfl (.inl rfl) pe_int)
      (pss_cons (ps_set (i := 3) scCSz.nd rfl (.inl rfl) (pe_callB (call_min2 rfl) (by rfl) mm (by decide +kernel) (pa_cons (pe_callB call_len_str (by rfl) ml PySem.boot_len (pa_cons (pv 0) pa_nil)) (pa_cons (pe_callB call_len_str (by rfl) ml PySem.boot_len (pa_cons (pv 1) pa_nil)) pa_nil))))
      (pss_cons (ps_while PassesOwn.never (pt_cmpR op_lt (pv 2) (pv 3) (nomark _))
        (pss_cons (ps_set (i := 4) scCSz.nd rfl (.inl rfl) (pe_op op_fdiv (pe_op op_add (pe_op op_add (pv 2) (pv 3)) pe_int) pe_int))
        (pss_one (ps_if (pt_cmpR op_eq (pe_slice C8.sl_txt (pv 0) (po_some (pv 2)) (po_some (pv 4))) (pe_slice C8.sl_txt (pv 1) (po_some (pv 2)) (po_some (pv 4))) (nomark _))
          (pss_one (ps_set (i := 2) scCSz.nd rfl (.inl rfl) (pv 4)))
          (pss_one (ps_set (i := 3) scCSz.nd rfl (.inl rfl) (pe_op op_sub (pv 4) pe_int)))))))
      (pss_one (ps_ret (pv 2))))), ?_⟩
    have za : (S a).length ≤ sizeLine := by rw [S_len]; exact small ha
    have zb : (S b).length ≤ sizeLine := by rw [S_len]; exact small hb
    have hle := cpl_le a b
    refine ⟨_, rfl, _, rfl, za, _, rfl, _, rfl, zb, _, _, rfl, ?_⟩
    rw [S_len, S_len]
    refine ⟨fun m σ H' => ∃ (k t : Nat) (v : Option V), σ = [some (tx a), some (tx b), some (.int (k : Int)), some (.int (t : Int)), v] ∧ H' = H ∧ k ≤ cpl a b ∧ cpl a b ≤ t ∧ t ≤ a.length ∧ t ≤ b.length ∧ m = t - k,
      ⟨_, 0, min a.length b.length, none, ?_, rfl, Nat.zero_le _, by omega, by omega, by omega, rfl⟩, ?_⟩
    · have e : (if ((b.length : Nat) : Int) < ((a.length : Nat) : Int) then ((b.length : Nat) : Int) else ((a.length : Nat) : Int)) = ((min a.length b.length : Nat) : Int) := by
        by_cases h : ((b.length : Nat) : Int) < ((a.length : Nat) : Int)
        · rw [if_pos h]
          omega
        · rw [if_neg h]
          omega
      rw [e]
      rfl
    rintro m σ H' ⟨k, t, v, rfl, rfl, h1, h2, h3, h4, rfl⟩
    refine ⟨_, rfl, _, rfl, _, _, rfl, rfl, _, rfl, ?_⟩
    by_cases hkt : k < t
    · rw [decide_eq_true (by omega)]
      refine iteT ⟨fun σ' H'' => ∃ (k' t' : Nat) (v' : Option V), σ' = [some (tx a), some (tx b), some (.int (k' : Int)), some (.int (t' : Int)), v'] ∧ H'' = H' ∧ k' ≤ cpl a b ∧ cpl a b ≤ t' ∧ t' ≤ a.length ∧ t' ≤ b.length ∧ t' - k' < t - k,
        fun σ' H'' ⟨k', t', v', ea, eb, a1, a2, a3, a4, a5⟩ => ⟨_, a5, k', t', v', ea, eb, a1, a2, a3, a4, rfl⟩, ?_⟩
      refine ⟨_, rfl, _, rfl, _, _, rfl, rfl, _, _, rfl, rfl, _, _, rfl, rfl, ⟨by omega, by decide⟩, ?_⟩
      have em : ((k : Int) + (t : Int) + 1) / 2 = (((k + t + 1) / 2 : Nat) : Int) := by omega
      dsimp only
      rw [em]
      have hm1 : k < (k + t + 1) / 2 := by omega
      have hm2 : (k + t + 1) / 2 ≤ t := by omega
      generalize (k + t + 1) / 2 = mi at hm1 hm2
      refine ⟨_, rfl, _, rfl, _, rfl, _, rfl, _, rfl, _, rfl, za, _, rfl, _, rfl, _, rfl, _, rfl, _, rfl, _, rfl, zb, rfl, _, rfl, ?_⟩
      rw [slice_mid, slice_mid]
      have key := cpl_mid (a := a) (b := b) (k := k) (m := mi) h1 (by omega) (by omega) (by omega)
      by_cases hq : mi ≤ cpl a b
      · rw [decide_eq_true (by rw [key.mpr hq])]
        exact iteT ⟨_, rfl, mi, t, some (.int (mi : Int)), rfl, rfl, hq, h2, h3, h4, by omega⟩
      · rw [decide_eq_false (fun e => hq (key.mp (S_inj (V.str.inj e))))]
        refine iteF ⟨_, rfl, _, _, rfl, rfl, k, mi - 1, some (.int (mi : Int)), ?_, rfl, h1, by omega, by omega, by omega, by omega⟩
        have e : ((mi - 1 : Nat) : Int) = (mi : Int) - 1 := by omega
        rw [e]
        rfl
    · rw [decide_eq_false (by omega)]
      have e : k = cpl a b := by omega
      subst e
      exact iteF ⟨_, rfl, q⟩
abbrev sFD : Stmt := topS 35
theorem scFD : FnScope ["first", "second", "place"] ["first", "second"] (defScope sFD) := ⟨rfl, rfl, rfl, by decide +kernel, rfl, by decide +kernel, by decide +kernel⟩
theorem ok_fdf {f f1 f2 : Addr} {fd fd1 fd2 : FuncData} (F : Fun K "first_difference" "first_difference" sFD f fd) (c1 : Cl P w K mg base "common_size" 1 ["first", "second"] spCSz f1 fd1) (c2 : Cl P w K mg base "letter_at" 1 ["text", "place"] spLAt f2 fd2) :
    FnOk P w K mg base CX0 2 f fd ["first", "second"] spFD := by
  refine F.ok scFD (fun vs H Q E h => ?_) (fun cdv A outer s H vs Q E hr h => ?_)
  · obtain ⟨a, b, rfl, _⟩ := h
    rfl
  · obtain ⟨a, b, rfl, ha, hb, q0, q⟩ := h
    refine ⟨_, pss_cons (ps_if (pt_cmpR op_eq (pv 0) (pv 1) (nomark _)) (pss_one (ps_ret pe_non)) pss_nil)
      (pss_cons (ps_set (i := 2) scFD.nd rfl (.inl rfl) (pe_cl c1 hr (by decide) (by rfl) (pa_cons (pv 0) (pa_cons (pv 1) pa_nil))))
      (pss_one (ps_ret (pe_tup (pa_cons (pv 2) (pa_cons (pe_cl c2 hr (by decide) (by rfl) (pa_cons (pv 0) (pa_cons (pv 2) pa_nil))) (pa_cons (pe_cl c2 hr (by decide) (by rfl) (pa_cons (pv 1) (pa_cons (pv 2) pa_nil))) pa_nil))))))), ?_⟩
    refine ⟨_, rfl, _, rfl, rfl, _, rfl, ?_⟩
    by_cases h : a = b
    · rw [decide_eq_true (by rw [h])]
      exact iteT (q0 h)
    · rw [decide_eq_false (fun e => h (S_inj (V.str.inj e)))]
      refine iteF ⟨_, rfl, _, rfl, a, b, rfl, ha, hb, ?_⟩
      refine ⟨_, rfl, _, rfl, _, rfl, a, _, rfl, ha, _, rfl, _, rfl, b, _, rfl, hb, (by show 3 ≤ sizeLine; decide), fun p np => ?_⟩
      exact q h _ p (same_new np) np upd_same
abbrev sLW : Stmt := topS 36
theorem scLW : FnScope ["letters", "one", "other"] ["letters", "one", "other"] (defScope sLW) := ⟨rfl, rfl, rfl, by decide +kernel, rfl, by decide +kernel, by decide +kernel⟩
theorem ok_lw {f : Addr} {fd : FuncData} (F : Fun K "letters_word" "letters_word" sLW f fd) : FnOk P w K mg base CX0 1 f fd ["letters", "one", "other"] spLW := by
  refine F.ok scLW (fun vs H Q E h => ?_) (fun cdv A outer s H vs Q E hr h => ?_)
  · obtain ⟨gs, c, d, rfl, _⟩ := h
    rfl
  · obtain ⟨gs, c, d, rfl, hc, hd, q⟩ := h
    refine ⟨_, pss_one (ps_ret (pe_ifExp (pt_cmpR op_lt (pe_m1 PySem.F.slot_str_index PySem.F.type_str_index mt_sindex (pv 0) (pv 1)) (pe_m1 PySem.F.slot_str_index PySem.F.type_str_index mt_sindex (pv 0) (pv 2)) (nomark _)) pe_str pe_str)), ?_⟩
    obtain ⟨r1, o1⟩ := occ1 hc
    obtain ⟨r2, o2⟩ := occ1 hd
    refine ⟨_, rfl, ⟨_, rfl⟩, _, rfl, _, _, _, r1, rfl, rfl, o1, _, rfl, ⟨_, rfl⟩, _, rfl, _, _, _, r2, rfl, rfl, o2, _, _, rfl, rfl, _, rfl, ?_⟩
    by_cases h : gs.idxOf c < gs.idxOf d
    · rw [if_pos h] at q
      rw [decide_eq_true (by omega)]
      exact iteT q
    · rw [if_neg h] at q
      rw [decide_eq_false (by omega)]
      exact iteF q
abbrev sTW : Stmt := topS 37
theorem scTW : FnScope ["letters", "first", "second", "found", "place", "one", "other"] ["letters", "first", "second"] (defScope sTW) := ⟨rfl, rfl, rfl, by decide +kernel, rfl, by decide +kernel, by decide +kernel⟩
theorem ok_tw {f f1 f2 : Addr} {fd fd1 fd2 : FuncData} (F : Fun K "texts_word" "texts_word" sTW f fd) (c1 : Cl P w K mg base "first_difference" 2 ["first", "second"] spFD f1 fd1) (c2 : Cl P w K mg base "letters_word" 1 ["letters", "one", "other"] spLW f2 fd2) :
    FnOk P w K mg base CX0 3 f fd ["letters", "first", "second"] spTW := by
  refine F.ok scTW (fun vs H Q E h => ?_) (fun cdv A outer s H vs Q E hr h => ?_)
  · obtain ⟨gs, a, b, rfl, _⟩ := h
    rfl
  · obtain ⟨gs, a, b, rfl, ha, hb, ma, mb, q⟩ := h
    refine ⟨_, pss_cons (ps_set (i := 3) scTW.nd rfl (.inl rfl) (pe_cl c1 hr (by decide) (by rfl) (pa_cons (pv 1) (pa_cons (pv 2) pa_nil))))
      (pss_cons (ps_if (pt_cmpR op_isN (pv 3) pe_non (nomark _)) (pss_one (ps_ret pe_str)) pss_nil)
      (pss_cons (ps_asg (pv 3) (pg_tup rfl (pgs_cons (pg_name (i := 4) scTW.nd rfl (.inl rfl)) (pgs_cons (pg_name (i := 5) scTW.nd rfl (.inl rfl)) (pgs_cons (pg_name (i := 6) scTW.nd rfl (.inl rfl)) pgs_nil)))))
      (pss_cons (ps_if (pt_cmpR op_isN (pv 5) pe_non (nomark _)) (pss_one (ps_ret pe_str)) pss_nil)
      (pss_cons (ps_if (pt_cmpR op_isN (pv 6) pe_non (nomark _)) (pss_one (ps_ret pe_str)) pss_nil)
      (pss_one (ps_ret (pe_cl c2 hr (by decide) (by rfl) (pa_cons (pv 0) (pa_cons (pv 5) (pa_cons (pv 6) pa_nil)))))))))), ?_⟩
    unfold cmpW at q
    refine ⟨_, rfl, _, rfl, a, b, rfl, ha, hb, fun h => ?_, fun h H1 p s1 np hp => ?_⟩
    · rw [if_pos h] at q
      refine ⟨_, rfl, rfl, true, rfl, iteT (q _ (Same.refl _))⟩
    · rw [if_neg h] at q
      refine ⟨_, rfl, rfl, false, rfl, iteF ⟨_, rfl, p, _, rfl, .inl (.inl hp), rfl, _, _, rfl, _, _, rfl, _, _, rfl, rfl, ?_⟩⟩
      unfold ltV
      cases h1 : a[cpl a b]? with
      | none =>
        rw [h1] at q
        exact ⟨_, rfl, rfl, true, rfl, iteT (q _ s1)⟩
      | some c =>
        refine ⟨_, rfl, rfl, false, rfl, iteF ?_⟩
        cases h2 : b[cpl a b]? with
        | none =>
          rw [h1, h2] at q
          exact ⟨_, rfl, rfl, true, rfl, iteT (q _ s1)⟩
        | some d =>
          rw [h1, h2] at q
          refine ⟨_, rfl, rfl, false, rfl, iteF ?_⟩
          exact ⟨_, rfl, _, rfl, _, rfl, gs, c, d, rfl, ma c (List.mem_of_getElem? h1), mb d (List.mem_of_getElem? h2), q _ s1⟩
abbrev sCm : Stmt := topS 38
theorem scCm : FnScope ["one", "other", "text"] ["one", "other", "text"] (defScope sCm) := ⟨rfl, rfl, rfl, by decide +kernel, rfl, by decide +kernel, by decide +kernel⟩
theorem ok_cm {f fS fLr pLr fF f2 C : Addr} {fd fdS fdLr fdF fd2 : FuncData} (F : Fun K "compared" "compared" sCm f fd) (T : TmC K C) (PLr : PropOf K C "letters" pLr fLr) (GLr : FnOk P w K mg base CX0 1 fLr fdLr ["self"] (spLr C)) (bLr : Binds K fdLr ["self"] [])
    (cS : Cl P w K mg base "check_same_letters" 1 ["letters", "other"] spCS fS fdS) (mF : Meth K C "fill" fF) (GF : FnOk P w K mg base CX0 5 fF fdF ["self", "text"] (spFi C)) (bF : Binds K fdF ["self", "text"] []) (c2 : Cl P w K mg base "texts_word" 3 ["letters", "first", "second"] spTW f2 fd2) :
    FnOk P w K mg base CX0 6 f fd ["one", "other", "text"] (spCm C) := by
  refine F.ok scCm (fun vs H Q E h => ?_) (fun cdv A outer s H vs Q E hr h => ?_)
  · obtain ⟨p1, p2, gs, xs, i1, i2, rfl, _⟩ := h
    rfl
  · obtain ⟨p1, p2, gs, xs, i1, i2, rfl, W, hxl, hxm, hl1, hl2, q⟩ := h
    refine ⟨_, pss_cons (ps_expr (pe_cl cS hr (by decide) (by rfl) (pa_cons (pe_prop (pv 0) T.cls PLr GLr (hr.mono (by decide)) bLr .nil pass0 (by rfl)) (pa_cons (pe_prop (pv 1) T.cls PLr GLr (hr.mono (by decide)) bLr .nil pass0 (by rfl)) pa_nil))))
      (pss_one (ps_ret (pe_cl c2 hr (by decide) (by rfl) (pa_cons (pe_prop (pv 0) T.cls PLr GLr (hr.mono (by decide)) bLr .nil pass0 (by rfl)) (pa_cons (pe_meth (pv 0) T.cls mF GF (hr.mono (by decide)) bF .nil pass0 (pa_cons (pv 2) pa_nil)) (pa_cons (pe_meth (pv 1) T.cls mF GF (hr.mono (by decide)) bF .nil pass0 (pa_cons (pv 2) pa_nil)) pa_nil)))))), ?_⟩
    obtain ⟨d1, _, a1, _⟩ := id W.t1
    obtain ⟨d2, _, a2, _⟩ := id W.t2
    have hR1 := W.l1
    have hR2 := W.l2
    refine ⟨_, rfl, p1, d1, _, rfl, a1, p1, gs, i1, rfl, W.t1, _, rfl, p2, d2, _, rfl, a2, p2, gs, i2, rfl, W.t2, gs, rfl, ?_⟩
    refine ⟨_, rfl, p1, d1, _, rfl, a1, p1, gs, i1, rfl, W.t1, ?_⟩
    refine ⟨_, rfl, p1, d1, _, rfl, a1, rfl, _, rfl, p1, gs, i1, xs, rfl, W.t1, W.g1, W.r1, by omega, hxl, hxm, fun H1 s1 => ?_⟩
    refine ⟨_, rfl, p2, d2, _, rfl, s1 _ _ a2, rfl, _, rfl, p2, gs, i2, xs, rfl, W.t2.same s1, W.g2, W.r2, by omega, hxl, hxm, fun H2 s2 => ?_⟩
    exact ⟨_, _, _, rfl, hl1, hl2, fill_mem W.g1 W.r1 hxm, fill_mem W.g2 W.r2 hxm, fun H3 s3 => q _ ((s1.trans s2).trans s3)⟩
end
end Own

namespace Own
open PySem PySem.Spec PyProof.Rows L2 SX RZ
section
variable {P : Program} {w : World} {K : PySem.W.Frag} {mg : Str → Option Value} {base : Heap}
theorem Paired.at {α β : Type} {F : α → β → Prop} : ∀ {l : List α} {m : List β} {i : Nat} {y : β}, Paired F l m → m[i]? = some y → ∃ x, l[i]? = some x ∧ F x y
  | _, _, _, _, .nil, e => by simp at e
  | _, _, 0, _, .cons r _, e => by simp at e; subst e; exact ⟨_, rfl, r⟩
  | _, _, i + 1, y, .cons _ t, e => by
    obtain ⟨u, h1, h2⟩ := Paired.at (i := i) (y := y) t (by simpa using e)
    exact ⟨u, by simpa using h1, h2⟩
theorem paired_impM {α β : Type} {F G : α → β → Prop} : ∀ {l : List α} {m : List β}, Paired F l m → (∀ a b, a ∈ l → F a b → G a b) → Paired G l m
  | _, _, .nil, _ => .nil
  | _, _, .cons h t, k => .cons (k _ _ (List.mem_cons_self ..) h) (paired_impM t fun a b ha e => k a b (List.mem_cons_of_mem _ ha) e)
theorem ivs_app {l m : List Nat} : ivs (l ++ m) = ivs l ++ ivs m := List.map_append
abbrev kI (n : Nat) : Key := Sum.inl (n : Int)
theorem kI_inj (a b : Nat) (h : kI a = kI b) : a = b := by
  injection h with h
  omega
theorem dc_itM {J : It} {n : Nat} {G : Hp → Prop} {Y : Nat → Hp → V → Hp → Prop} {g : TG} {tt : TT} {tk tv : TE} {vs : List Nat} {σ : L2.St} {H1 : Hp} {D : Addr} {Qd : Hp → Prop} (w : Walk J n G Y) (Pv : Nat → Hp → Prop) (h0 : Pv 0 (upd H1 D (.dK []))) (hG : ∀ i H, i ≤ n → Pv i H → G H)
    (hs : ∀ i x H H', i < n → Pv i H → Y i H x H' → g x (wipe σ vs) H' fun σ2 H2 => wipe σ2 vs = wipe σ vs ∧ tt σ2 H2 fun b H3 =>
      if b = true then tk σ2 H3 fun y H4 => tv σ2 H4 fun z H5 => ∃ kvs k, y = kV k ∧ H5 D = some (.dK kvs) ∧ kvs.length < sizeLine ∧ Pv (i + 1) (upd H5 D (.dK (putK kvs k z))) else Pv (i + 1) H3) (hd : ∀ H, Pv n H → Qd H) :
    ∃ W : Nat → Nat → Hp → Prop, (∃ m, W 0 m (upd H1 D (.dK []))) ∧ ∀ i m H, W i m H →
      (J.stop i H ∧ Qd H) ∨ (J.go i H ∧ ∃ Nx : Hp → Prop, (∀ H', Nx H' → ∃ m', m' < m ∧ W (i + 1) m' H') ∧ ∀ x H', J.yld i H x H' → g x (wipe σ vs) H' fun σ2 H2 => wipe σ2 vs = wipe σ vs ∧ tt σ2 H2 fun b H3 =>
        if b = true then tk σ2 H3 fun y H4 => tv σ2 H4 fun z H5 => ∃ kvs k, y = kV k ∧ H5 D = some (.dK kvs) ∧ kvs.length < sizeLine ∧ Nx (upd H5 D (.dK (putK kvs k z))) else Nx H3) := by
  refine ⟨fun i m H => m = n - i ∧ i ≤ n ∧ Pv i H, ⟨n, rfl, Nat.zero_le _, h0⟩, ?_⟩
  rintro i m H ⟨rfl, hi, p⟩
  by_cases hlt : i < n
  · exact .inr ⟨w.goes i H hlt (hG i H hi p), Pv (i + 1), fun H' p' => ⟨n - (i + 1), by omega, rfl, hlt, p'⟩, fun x H' y => hs i x H H' hlt p (w.yields i H x H' hlt (hG i H hi p) y)⟩
  · obtain rfl : i = n := by omega
    exact .inl ⟨w.stops H (hG i H hi p), hd H p⟩
end
end Own

namespace Own
open PySem PySem.Spec PyProof.Rows L2 SX RZ
section
variable {P : Program} {w : World} {K : PySem.W.Frag} {mg : Str → Option Value} {base : Heap}
/-! ### nets of patterns -/
theorem paired_mem {α β : Type} {F : α → β → Prop} : ∀ {as : List α} {bs : List β} {a : α}, Paired F as bs → a ∈ as → ∃ b, F a b
  | _, _, _, .cons h t, m => (List.mem_cons.mp m).elim (fun e => ⟨_, e ▸ h⟩) fun m => paired_mem t m
structure NeC (K : PySem.W.Frag) (C : Addr) : Prop where
  cls : Cls K C
  nr : NoAttr K C "reads"
  nj : NoAttr K C "jumps"
/-- a net as it lies: its two lists and the lists of jumps -/
structure NetA (H : Hp) (C p R J : Addr) (js : List Addr) (N : Pt.Net) : Prop where
  ins : ∃ dx, H p = some (.ins C dx [("reads", .ref R), ("jumps", .ref J)])
  rd : H R = some (.lst (N.reads.map tx))
  jp : H J = some (.lst (js.map V.ref))
  ls : Paired (fun b l => H b = some (.lst (ivs l))) js N.jumps
  nd : (R :: J :: js).Nodup
theorem NetA.keep {H H' : Hp} {C p R J : Addr} {js : List Addr} {N : Pt.Net} (h : NetA H C p R J js N) (s : Same H H') : NetA H' C p R J js N := by
  obtain ⟨⟨dx, h1⟩, h2, h3, h4, h5⟩ := h
  exact ⟨⟨dx, s _ _ h1⟩, s _ _ h2, s _ _ h3, Paired.mapP h4 fun _ _ z => s _ _ z, h5⟩
theorem NetA.len {H : Hp} {C p R J : Addr} {js : List Addr} {N : Pt.Net} (h : NetA H C p R J js N) : js.length = N.jumps.length := Paired.length h.ls
def spNI (C : Addr) : Sp := fun vs H Q _ => ∃ x dx, vs = [.ref x] ∧ H x = some (.ins C dx []) ∧ ∀ H' R J, (∀ b o, b ≠ x → H b = some o → H' b = some o) → H R = none → H J = none → NetA H' C x R J [] ⟨[], []⟩ → Q .non H'
abbrev sNI : Stmt := inClass (topS 42) 0
theorem scNI : FnScope ["self"] ["self"] (defScope sNI) := ⟨rfl, rfl, rfl, by decide +kernel, rfl, by decide +kernel, by decide +kernel⟩
theorem ok_ni {f C : Addr} {fd : FuncData} (F : Fun K "__init__" "Net.__init__" sNI f fd) (T : NeC K C) : FnOk P w K mg base CX0 1 f fd ["self"] (spNI C) := by
  refine F.ok scNI (fun vs H Q E h => ?_) (fun cdv A outer s H vs Q E hr h => ?_)
  · obtain ⟨x, dx, rfl, _⟩ := h
    rfl
  · obtain ⟨x, dx, rfl, hx, q⟩ := h
    refine ⟨_, pss_cons (ps_fld (pv 0) (pe_lst pa_nil) (by rfl)) (pss_one (ps_fld (pv 0) (pe_lst pa_nil) (by rfl))), ?_⟩
    refine ⟨Nat.zero_le _, fun R nR => ?_⟩
    have nRx : x ≠ R := ne_of_none hx nR
    have hx1 : upd H R (.lst []) x = some (.ins C dx []) := by rw [upd_ne nRx]; exact hx
    refine ⟨_, rfl, x, C, dx, _, rfl, hx1, T.cls, T.nr, (by show 0 < 1000; decide), ?_⟩
    refine ⟨Nat.zero_le _, fun J nJ => ?_⟩
    have nJx : x ≠ J := ne_of_none upd_same nJ
    have nJ1 : upd H R (.lst []) J = none := by rw [upd_ne nJx.symm] at nJ; exact nJ
    have nJR : R ≠ J := ne_of_none upd_same nJ1
    have hJ : H J = none := by rw [upd_ne nJR.symm] at nJ1; exact nJ1
    refine ⟨_, rfl, x, C, dx, _, rfl, by rw [upd_ne nJx, upd_same], T.cls, T.nj, (by show 1 < 1000; decide), ?_⟩
    refine q _ R J (fun b o nb e => ?_) nR hJ ⟨⟨dx, upd_same⟩, ?_, ?_, .nil, by simp [nJR]⟩
    · rw [upd_ne nb, upd_ne (ne_of_none e hJ), upd_ne nb, upd_ne (ne_of_none e nR)]
      exact e
    · rw [upd_ne nRx.symm, upd_ne nJR, upd_ne nRx.symm, upd_same]
      rfl
    · rw [upd_ne nJx.symm, upd_same]
      rfl
/-! a new node -/
def spNn (C : Addr) : Sp := fun vs H Q _ => ∃ (p R J : Addr) (js : List Addr) (N : Pt.Net) (r : List Nat), vs = [.ref p, tx r] ∧ NetA H C p R J js N ∧ Pt.Wf N ∧ N.reads.length ≤ 100000 ∧
  ∀ H' B, H B = none → (∀ a o, a ≠ R → a ≠ J → H a = some o → H' a = some o) → NetA H' C p R J (js ++ [B]) ⟨N.reads ++ [r], N.jumps ++ [[]]⟩ → Q (iv N.reads.length) H'
abbrev sNn : Stmt := inClass (topS 42) 1
theorem scNn : FnScope ["self", "reads"] ["self", "reads"] (defScope sNn) := ⟨rfl, rfl, rfl, by decide +kernel, rfl, by decide +kernel, by decide +kernel⟩
theorem ok_nn {f C : Addr} {fd : FuncData} (F : Fun K "new_node" "Net.new_node" sNn f fd) (T : NeC K C) (ml : mg "len" = none) : FnOk P w K mg base CX0 1 f fd ["self", "reads"] (spNn C) := by
  refine F.ok scNn (fun vs H Q E h => ?_) (fun cdv A outer s H vs Q E hr h => ?_)
  · obtain ⟨p, R, J, js, N, r, rfl, _⟩ := h
    rfl
  · obtain ⟨p, R, J, js, N, r, rfl, hN, wf, hl, q⟩ := h
    have hjl := hN.len
    obtain ⟨⟨dx, hp⟩, hR, hJ, hP, hnd⟩ := id hN
    have hnd2 := List.nodup_cons.mp hnd
    have hnd3 := List.nodup_cons.mp hnd2.2
    have RJ : R ≠ J := fun e => hnd2.1 (e ▸ List.mem_cons_self ..)
    refine ⟨_, pss_cons (ps_expr (pe_bm PySem.F.plainAttrs_list PySem.F.slot_list_append PySem.F.type_list_append mt_append (pe_fld (pv 0) (by rfl)) (pa_cons (pv 1) pa_nil)))
      (pss_cons (ps_expr (pe_bm PySem.F.plainAttrs_list PySem.F.slot_list_append PySem.F.type_list_append mt_append (pe_fld (pv 0) (by rfl)) (pa_cons (pe_lst pa_nil) pa_nil)))
      (pss_one (ps_ret (pe_op op_sub (pe_callB call_len_seq (by rfl) ml PySem.boot_len (pa_cons (pe_fld (pv 0) (by rfl)) pa_nil)) pe_int)))), ?_⟩
    have pR : p ≠ R := ne_of hp hR (fun z => nomatch z)
    have pJ : p ≠ J := ne_of hp hJ (fun z => nomatch z)
    refine ⟨_, rfl, p, C, dx, _, _, rfl, hp, T.cls, T.nr, rfl, .inl ⟨rfl, _, sqL hR⟩, _, rfl, R, _, _, rfl, rfl, hR, by rw [List.length_map, sizeLine_eq]; omega, ?_⟩
    obtain ⟨H1, eH1⟩ : ∃ H1, H1 = upd H R (.lst (N.reads.map tx ++ [tx r])) := ⟨_, rfl⟩
    rw [← eH1]
    have hp1 : H1 p = some (.ins C dx [("reads", .ref R), ("jumps", .ref J)]) := by rw [eH1, upd_ne pR]; exact hp
    have hJ1 : H1 J = some (.lst (js.map V.ref)) := by rw [eH1, upd_ne RJ.symm]; exact hJ
    have hR1 : H1 R = some (.lst ((N.reads ++ [r]).map tx)) := by rw [eH1, upd_same, List.map_append]; rfl
    have k1 : ∀ a o, a ≠ R → H a = some o → H1 a = some o := fun a o n e => by rw [eH1, upd_ne n]; exact e
    refine ⟨_, rfl, p, C, dx, _, _, rfl, hp1, T.cls, T.nj, rfl, .inl ⟨rfl, _, sqL hJ1⟩, Nat.zero_le _, fun B nB => ?_⟩
    have nBR : R ≠ B := ne_of_none hR1 nB
    have hB : H B = none := by rw [eH1, upd_ne nBR.symm] at nB; exact nB
    have sB := same_new (o := .lst []) nB
    refine ⟨J, _, _, rfl, rfl, sB _ _ hJ1, by rw [List.length_map, hjl, wf, sizeLine_eq]; omega, ?_⟩
    obtain ⟨H2, eH2⟩ : ∃ H2, H2 = upd (upd H1 B (.lst [])) J (.lst (js.map V.ref ++ [.ref B])) := ⟨_, rfl⟩
    rw [← eH2]
    have nBJ : J ≠ B := ne_of_none hJ1 nB
    have k2 : ∀ a o, a ≠ J → H1 a = some o → H2 a = some o := fun a o n e => by rw [eH2, upd_ne n]; exact sB _ _ e
    have hR2 := k2 _ _ RJ hR1
    refine ⟨_, rfl, p, C, dx, _, _, rfl, k2 _ _ pJ hp1, T.cls, T.nr, rfl, R, _, rfl, .inl (sqL hR2), _, _, rfl, rfl, ?_⟩
    have hB2 : H2 B = some (.lst (ivs [])) := by rw [eH2, upd_ne nBJ.symm, upd_same]; rfl
    have e1 : V.int ((((N.reads ++ [r]).map tx).length : Nat) - 1 : Int) = iv N.reads.length := by
      rw [List.length_map, List.length_append]
      show V.int (((N.reads.length + 1 : Nat) : Int) - 1) = V.int _
      rw [show ((N.reads.length + 1 : Nat) : Int) - 1 = (N.reads.length : Int) by omega]
    show Q (V.int ((((N.reads ++ [r]).map tx).length : Nat) - 1 : Int)) H2
    rw [e1]
    refine q H2 B hB (fun a o n1 n2 e => k2 _ _ n2 (k1 _ _ n1 e)) ⟨⟨dx, k2 _ _ pJ hp1⟩, hR2, by rw [eH2, upd_same, List.map_append]; rfl, ?_, ?_⟩
    · refine Paired.snoc (paired_impM hP fun b l hb e => k2 _ _ ?_ (k1 _ _ ?_ e)) hB2
      · exact fun z => hnd3.1 (z ▸ hb)
      · exact fun z => hnd2.1 (z ▸ List.mem_cons_of_mem _ hb)
    · have : R :: J :: (js ++ [B]) = (R :: J :: js) ++ [B] := rfl
      rw [this]
      refine List.nodup_append.mpr ⟨hnd, by simp, fun a ha b hb e => ?_⟩
      rw [List.mem_singleton.mp hb] at e
      subst e
      rcases List.mem_cons.mp ha with e | ha
      · exact nBR e.symm
      · rcases List.mem_cons.mp ha with e | ha
        · exact nBJ e.symm
        · obtain ⟨l, hl2⟩ := paired_mem hP ha
          rw [hB] at hl2
          cases hl2
/-! a new piece -/
def spNp (C : Addr) : Sp := fun vs H Q _ => ∃ (p R J : Addr) (js : List Addr) (N : Pt.Net) (r : List Nat), vs = [.ref p, tx r] ∧ NetA H C p R J js N ∧ Pt.Wf N ∧ N.reads.length ≤ 99999 ∧
  ∀ H' t B1 B2, H t = none → H B1 = none → H B2 = none → (∀ a o, a ≠ R → a ≠ J → H a = some o → H' a = some o) → H' t = some (.tup [iv N.reads.length, iv (N.reads.length + 1)]) → NetA H' C p R J (js ++ [B1, B2]) (N.piece r) → Q (.ref t) H'
abbrev sNp : Stmt := inClass (topS 42) 2
theorem scNp : FnScope ["self", "reads"] ["self", "reads"] (defScope sNp) := ⟨rfl, rfl, rfl, by decide +kernel, rfl, by decide +kernel, by decide +kernel⟩
theorem ok_np {f f1 C : Addr} {fd fd1 : FuncData} (F : Fun K "new_piece" "Net.new_piece" sNp f fd) (T : NeC K C) (m1 : Meth K C "new_node" f1) (G1 : FnOk P w K mg base CX0 1 f1 fd1 ["self", "reads"] (spNn C)) (b1 : Binds K fd1 ["self", "reads"] []) : FnOk P w K mg base CX0 2 f fd ["self", "reads"] (spNp C) := by
  refine F.ok scNp (fun vs H Q E h => ?_) (fun cdv A outer s H vs Q E hr h => ?_)
  · obtain ⟨p, R, J, js, N, r, rfl, _⟩ := h
    rfl
  · obtain ⟨p, R, J, js, N, r, rfl, hN, wf, hl, q⟩ := h
    refine ⟨_, pss_one (ps_ret (pe_tup (pa_cons (pe_meth (pv 0) T.cls m1 G1 (hr.mono (by decide)) b1 .nil pass0 (pa_cons (pv 1) pa_nil)) (pa_cons (pe_meth (pv 0) T.cls m1 G1 (hr.mono (by decide)) b1 .nil pass0 (pa_cons pe_str pa_nil)) pa_nil)))), ?_⟩
    obtain ⟨dx, hp⟩ := hN.ins
    refine ⟨_, rfl, p, dx, _, rfl, hp, rfl, _, rfl, p, R, J, js, N, r, rfl, hN, wf, by omega, fun H1 B1 n1 k1 hN1 => ?_⟩
    obtain ⟨dx1, hp1⟩ := hN1.ins
    refine ⟨_, rfl, p, dx1, _, rfl, hp1, rfl, p, R, J, _, _, [], rfl, hN1, by unfold Pt.Wf at wf ⊢; rw [List.length_append, List.length_append, wf]; rfl, by show (N.reads ++ [r]).length ≤ 100000; rw [List.length_append]; show N.reads.length + 1 ≤ _; omega, fun H2 B2 n2 k2 hN2 => ?_⟩
    refine ⟨(by show 2 ≤ sizeLine; decide), fun t nt => ?_⟩
    have st := same_new (o := .tup [iv N.reads.length, iv (N.reads ++ [r]).length]) nt
    have back : ∀ a, H2 a = none → H a = none := fun a e => by
      cases z : H a with
      | none => rfl
      | some o =>
        by_cases h1 : a = R
        · rw [h1, hN2.rd] at e; cases e
        · by_cases h2 : a = J
          · rw [h2, hN2.jp] at e; cases e
          · rw [k2 _ _ h1 h2 (k1 _ _ h1 h2 z)] at e; cases e
    have back1 : ∀ a, H1 a = none → H a = none := fun a e => by
      cases z : H a with
      | none => rfl
      | some o =>
        by_cases h1 : a = R
        · rw [h1, hN1.rd] at e; cases e
        · by_cases h2 : a = J
          · rw [h2, hN1.jp] at e; cases e
          · rw [k1 _ _ h1 h2 z] at e; cases e
    have el : (N.reads ++ [r]).length = N.reads.length + 1 := by rw [List.length_append]; rfl
    refine q _ t B1 B2 (back _ nt) n1 (back1 _ n2) (fun a o h1 h2 e => st _ _ (k2 _ _ h1 h2 (k1 _ _ h1 h2 e))) (by rw [upd_same, el]) ?_
    have := hN2.keep st
    rw [show js ++ [B1] ++ [B2] = js ++ [B1, B2] by simp, show (N.reads ++ [r]) ++ [[]] = N.reads ++ [r, []] by simp, show (N.jumps ++ [[]]) ++ [[]] = N.jumps ++ [[], []] by simp] at this
    exact this
/-! a jump -/
def spNl (C : Addr) : Sp := fun vs H Q _ => ∃ (p R J : Addr) (js : List Addr) (N : Pt.Net) (a b : Nat), vs = [.ref p, iv a, iv b] ∧ NetA H C p R J js N ∧ a < N.jumps.length ∧ (∀ l ∈ N.jumps, l.length ≤ 100000) ∧
  ∀ H', (∀ x o, x ∉ js → H x = some o → H' x = some o) → NetA H' C p R J js (N.link a b) → Q .non H'
abbrev sNl : Stmt := inClass (topS 42) 3
theorem scNl : FnScope ["self", "one", "other"] ["self", "one", "other"] (defScope sNl) := ⟨rfl, rfl, rfl, by decide +kernel, rfl, by decide +kernel, by decide +kernel⟩
theorem paired_modify {α β : Type} {F G : α → β → Prop} {g : β → β} : ∀ {as : List α} {bs : List β} {i : Nat} {a : α}, Paired F as bs → as[i]? = some a → (∀ b, F a b → G a (g b)) → (∀ c b, c ∈ as.eraseIdx i → F c b → G c b) → Paired G as (bs.modify i g)
  | _, _, 0, _, .cons h t, e, k1, k2 => by
    cases e
    exact .cons (k1 _ h) (paired_impM t fun c b hc hF => k2 c b hc hF)
  | _, _, i + 1, a, .cons (a := x) h t, e, k1, k2 => .cons (k2 _ _ (List.mem_cons_self ..) h) (paired_modify t e k1 fun c b hc => k2 c b (List.mem_cons_of_mem _ hc))
theorem mem_erase_ne {α : Type} : ∀ {as : List α} {i : Nat} {a c : α}, as.Nodup → as[i]? = some a → c ∈ as.eraseIdx i → c ≠ a
  | _ :: as, 0, a, c, nd, e, hc => by
    cases e
    exact fun z => (List.nodup_cons.mp nd).1 (z ▸ hc)
  | b :: as, i + 1, a, c, nd, e, hc => by
    have nd := List.nodup_cons.mp nd
    rcases List.mem_cons.mp hc with rfl | hc
    · exact fun z => nd.1 (z ▸ List.mem_of_getElem? e)
    · exact mem_erase_ne nd.2 e hc
theorem ok_nl {f C : Addr} {fd : FuncData} (F : Fun K "link" "Net.link" sNl f fd) (T : NeC K C) : FnOk P w K mg base CX0 1 f fd ["self", "one", "other"] (spNl C) := by
  refine F.ok scNl (fun vs H Q E h => ?_) (fun cdv A outer s H vs Q E hr h => ?_)
  · obtain ⟨p, R, J, js, N, a, b, rfl, _⟩ := h
    rfl
  · obtain ⟨p, R, J, js, N, a, b, rfl, hN, ha, hl, q⟩ := h
    obtain ⟨⟨dx, hp⟩, hR, hJ, hP, hnd⟩ := id hN
    have hnd2 := List.nodup_cons.mp hnd
    have hnd3 := List.nodup_cons.mp hnd2.2
    refine ⟨_, pss_one (ps_expr (pe_bm PySem.F.plainAttrs_list PySem.F.slot_list_append PySem.F.type_list_append mt_append (pe_ix (ixL (K := K) rfl) (pe_fld (pv 0) (by rfl)) (pv 1) (fun _ _ => rfl)) (pa_cons (pv 2) pa_nil))), ?_⟩
    obtain ⟨B, eB, hB⟩ := Paired.at hP (get_of_lt (d := []) ha)
    have hBm : B ∈ js := List.mem_of_getElem? eB
    have lB := hl _ (List.mem_of_getElem? (get_of_lt (d := []) ha))
    refine ⟨_, rfl, p, C, dx, _, _, rfl, hp, T.cls, T.nj, rfl, _, rfl, ixL_at (sqL hJ) (by rw [List.getElem?_map, eB]; rfl) ?_⟩
    refine ⟨.inl ⟨rfl, _, sqL hB⟩, _, rfl, B, _, _, rfl, rfl, hB, by rw [ivs_len, sizeLine_eq]; omega, ?_⟩
    have ne : ∀ {x : Addr}, x ∉ js → x ≠ B := fun h z => h (z ▸ hBm)
    have pB : p ≠ B := ne_of hp hB (fun z => nomatch z)
    have RB : R ≠ B := fun z => hnd2.1 (z ▸ List.mem_cons_of_mem _ hBm)
    have JB : J ≠ B := fun z => hnd3.1 (z ▸ hBm)
    refine q _ (fun x o n e => by rw [upd_ne (ne n)]; exact e) ⟨⟨dx, by rw [upd_ne pB]; exact hp⟩, by rw [upd_ne RB]; exact hR, by rw [upd_ne JB]; exact hJ, ?_, hnd⟩
    refine paired_modify hP eB (fun l e => ?_) fun c l hc e => ?_
    · rw [upd_same]
      have : HO.lst (ivs (N.jumps.getD a [])) = HO.lst (ivs l) := by rw [hB] at e; exact Option.some.inj e
      have e2 : ivs (N.jumps.getD a []) = ivs l := by injection this
      rw [e2, ivs_app]
      rfl
    · rw [upd_ne (mem_erase_ne hnd3.2 eB hc)]
      exact e
end
end Own

namespace Own
open PySem PySem.Spec PyProof.Rows L2 SX RZ
section
variable {P : Program} {w : World} {K : PySem.W.Frag} {mg : Str → Option Value} {base : Heap}
/-! the letters for which a sign stands -/
def spRl : Sp := fun vs H Q _ => ∃ (gs : List Nat) (c : Nat), vs = [tx gs, tx [c]] ∧ gs.length ≤ 1000 ∧ Q (tx (Pt.rl gs c)) H
abbrev sRl : Stmt := topS 43
theorem scRl : FnScope ["letters", "sign"] ["letters", "sign"] (defScope sRl) := ⟨rfl, rfl, rfl, by decide +kernel, rfl, by decide +kernel, by decide +kernel⟩
theorem get_lastV {l : List V} {v : V} : (l ++ [v])[(l ++ [v]).length - 1]? = some v := by simp
theorem dec_sg (m k : Nat) : decide (V.str (S [m]) = V.str (S [k])) = decide (m = k) := by
  rw [dec_str]
  by_cases e : m = k <;> simp [e]
theorem ok_rl {f : Addr} {fd : FuncData} (F : Fun K "read_letters" "read_letters" sRl f fd) : FnOk P w K mg base CX0 1 f fd ["letters", "sign"] spRl := by
  refine F.ok scRl (fun vs H Q E h => ?_) (fun cdv A outer s H vs Q E hr h => ?_)
  · obtain ⟨gs, c, rfl, _⟩ := h
    rfl
  · obtain ⟨gs, c, rfl, hl, q⟩ := h
    refine ⟨_, pss_cons (ps_if (pt_cmpR op_eq (pv 1) pe_str (nomark _)) (pss_one (ps_ret (pv 0))) pss_nil)
      (pss_one (ps_ret (pe_ifExp (pt_cmpR op_in_sign (pv 1) (pv 0) (by rfl)) (pv 1) pe_str))), ?_⟩
    refine ⟨_, rfl, rfl, _, rfl, ?_⟩
    rw [show V.str (Str.ofString ".") = V.str (S [46]) from rfl]
    show (if decide (V.str (S [c]) = V.str (S [46])) = true then _ else _)
    rw [dec_sg]
    unfold Pt.rl at q
    by_cases e : c = 46
    · rw [decide_eq_true e]
      rw [if_pos e] at q
      exact iteT ⟨_, rfl, q⟩
    rw [decide_eq_false e]
    rw [if_neg e] at q
    refine iteF ?_
    refine ⟨_, rfl, _, rfl, c, S gs, rfl, rfl, _, rfl, ?_⟩
    by_cases m : c ∈ gs
    · rw [if_pos m] at q
      rw [decide_eq_true (show c ∈ (S gs).cps.toList from m)]
      exact iteT ⟨_, rfl, q⟩
    · rw [if_neg m] at q
      rw [decide_eq_false (show ¬ c ∈ (S gs).cps.toList from m)]
      exact iteF q
/-! the net of a pattern -/
structure PnS (H0 H : Hp) (C n R J : Addr) (js : List Addr) (G pc : Addr) (gas : List Addr) (N : Pt.Net) (p : Nat × Nat) (gr : List (Nat × Nat)) : Prop where
  same : Same H0 H
  net : NetA H C n R J js N
  fn : H0 n = none
  fR : H0 R = none
  fJ : H0 J = none
  fj : ∀ b ∈ js, H0 b = none
  fG : H0 G = none
  pcs : H pc = some (.tup [iv p.1, iv p.2])
  grl : H G = some (.lst (gas.reverse.map V.ref))
  gts : Paired (fun a (g : Nat × Nat) => H a = some (.tup [iv g.1, iv g.2])) gas gr
  off : G ∉ R :: J :: js
section
variable {H0 H H' : Hp} {C n R J G pc : Addr} {js gas : List Addr} {N : Pt.Net} {p : Nat × Nat} {gr : List (Nat × Nat)}
theorem PnS.tupOff (h : PnS H0 H C n R J js G pc gas N p gr) {a : Addr} {ys : List V} (e : H a = some (.tup ys)) : a ∉ js := fun m => by
  obtain ⟨l, hl⟩ := paired_mem h.net.ls m
  rw [e] at hl
  cases hl
theorem PnS.link (h : PnS H0 H C n R J js G pc gas N p gr) {a b : Nat} (k : ∀ x o, x ∉ js → H x = some o → H' x = some o) (hN : NetA H' C n R J js (N.link a b)) : PnS H0 H' C n R J js G pc gas (N.link a b) p gr :=
  ⟨fun x o e => k _ _ (fun m => by rw [h.fj x m] at e; cases e) (h.same _ _ e), hN, h.fn, h.fR, h.fJ, h.fj, h.fG, k _ _ (h.tupOff h.pcs) h.pcs, k _ _ (fun m => h.off (List.mem_cons_of_mem _ (List.mem_cons_of_mem _ m))) h.grl,
    Paired.mapP h.gts fun _ _ z => k _ _ (h.tupOff z) z, h.off⟩
theorem PnS.piece (h : PnS H0 H C n R J js G pc gas N p gr) {t B1 B2 : Addr} {r : List Nat} {u : Nat × Nat} (n1 : H B1 = none) (n2 : H B2 = none) (k : ∀ a o, a ≠ R → a ≠ J → H a = some o → H' a = some o) (ht : H' t = some (.tup [iv u.1, iv u.2]))
    (hN : NetA H' C n R J (js ++ [B1, B2]) (N.piece r)) : PnS H0 H' C n R J (js ++ [B1, B2]) G t gas (N.piece r) u gr := by
  have fresh : ∀ a, H a = none → H0 a = none := fun a e => none_of h.same e
  have tn : ∀ {a : Addr} {ys : List V}, H a = some (.tup ys) → H' a = some (.tup ys) := fun {a ys} e => k _ _ (ne_of e h.net.rd (fun z => nomatch z)) (ne_of e h.net.jp (fun z => nomatch z)) e
  have oG := h.off
  have GR : G ≠ R := fun e => oG (e ▸ List.mem_cons_self ..)
  have GJ : G ≠ J := fun e => oG (e ▸ List.mem_cons_of_mem _ (List.mem_cons_self ..))
  refine ⟨fun x o e => k _ _ (fun z => by rw [z, h.fR] at e; cases e) (fun z => by rw [z, h.fJ] at e; cases e) (h.same _ _ e), hN, h.fn, h.fR, h.fJ, fun b m => ?_, h.fG, ht, k _ _ GR GJ h.grl, Paired.mapP h.gts fun _ _ z => tn z, fun m => ?_⟩
  · rcases List.mem_append.mp m with m | m
    · exact h.fj b m
    · simp at m
      rcases m with rfl | rfl
      · exact fresh _ n1
      · exact fresh _ n2
  · have m : G ∈ (R :: J :: js) ++ [B1, B2] := m
    rcases List.mem_append.mp m with m | m
    · exact oG m
    · have hG := h.grl
      simp at m
      rcases m with rfl | rfl
      · rw [n1] at hG; cases hG
      · rw [n2] at hG; cases hG
/-- the groups' list changes -/
theorem PnS.grp (h : PnS H0 H C n R J js G pc gas N p gr) {gas' : List Addr} {gr' : List (Nat × Nat)} (hp : Paired (fun a (g : Nat × Nat) => H a = some (.tup [iv g.1, iv g.2])) gas' gr') : PnS H0 (upd H G (.lst (gas'.reverse.map V.ref))) C n R J js G pc gas' N p gr' := by
  have oG := h.off
  have tn : ∀ {a : Addr} {ys : List V}, H a = some (.tup ys) → upd H G (.lst (gas'.reverse.map V.ref)) a = some (.tup ys) := fun {a ys} e => by rw [upd_ne (ne_of e h.grl (fun z => nomatch z))]; exact e
  obtain ⟨⟨dx, h1⟩, h2, h3, h4, h5⟩ := h.net
  refine ⟨same_put h.same h.fG, ⟨⟨dx, by rw [upd_ne (ne_of h1 h.grl (fun z => nomatch z))]; exact h1⟩, by rw [upd_ne fun e => oG (by rw [← e]; exact List.mem_cons_self ..)]; exact h2, by rw [upd_ne fun e => oG (by rw [← e]; exact List.mem_cons_of_mem _ (List.mem_cons_self ..))]; exact h3,
    paired_impM h4 fun b l hb e => by rw [upd_ne fun z => oG (by rw [← z]; exact List.mem_cons_of_mem _ (List.mem_cons_of_mem _ hb))]; exact e, h5⟩, h.fn, h.fR, h.fJ, h.fj, h.fG, tn h.pcs, upd_same, Paired.mapP hp fun _ _ z => tn z, oG⟩
end
def spPn (C : Addr) : Sp := fun vs H Q _ => ∃ (gs : List Nat) (x : Pt.X), vs = [tx gs, tx (Pt.tx x)] ∧ (∀ c ∈ gs, 97 ≤ c ∧ c ≤ 122) ∧ gs.length ≤ 1000 ∧ Pt.Ok gs x ∧ (Pt.tx x).length ≤ 1000 ∧
  ∀ H' p R J js, Same H H' → H p = none → NetA H' C p R J js (Pt.netOf gs x) → Q (.ref p) H'
abbrev sPn : Stmt := topS 44
abbrev pnN : List Str := ["letters", "pattern", "net", "piece", "groups", "now", "sign"]
theorem scPn : FnScope pnN ["letters", "pattern"] (defScope sPn) := ⟨rfl, rfl, rfl, by decide +kernel, rfl, by decide +kernel, by decide +kernel⟩
theorem ok_pn {f fI f2 f3 f4 C : Addr} {fd fdI fd2 fd3 fd4 : FuncData} (F : Fun K "pattern_net" "pattern_net" sPn f fd) (T : NeC K C) (M : Mk K C fI) (gC : mg "Net" = some (.ref C)) (GI : FnOk P w K mg base CX0 1 fI fdI ["self"] (spNI C)) (bI : Binds K fdI ["self"] [])
    (m2 : Meth K C "new_piece" f2) (G2 : FnOk P w K mg base CX0 2 f2 fd2 ["self", "reads"] (spNp C)) (b2 : Binds K fd2 ["self", "reads"] [])
    (m3 : Meth K C "link" f3) (G3 : FnOk P w K mg base CX0 1 f3 fd3 ["self", "one", "other"] (spNl C)) (b3 : Binds K fd3 ["self", "one", "other"] [])
    (c4 : Cl P w K mg base "read_letters" 1 ["letters", "sign"] spRl f4 fd4) (g0 : ∃ t, mg "FIRST_NODE" = some (.int 0 t)) (g1 : ∃ t, mg "LAST_NODE" = some (.int 1 t)) :
    FnOk P w K mg base CX0 3 f fd ["letters", "pattern"] (spPn C) := by
  obtain ⟨t0, g0⟩ := g0
  obtain ⟨t1, g1⟩ := g1
  refine F.ok scPn (fun vs H Q E h => ?_) (fun cdv A outer s H vs Q E hr h => ?_)
  · obtain ⟨gs, x, rfl, _⟩ := h
    rfl
  · obtain ⟨gs, x, rfl, hg, hgl, hok, hl, q⟩ := h
    refine ⟨_, (pss_cons (ps_set (i := 2) scPn.nd rfl (.inl rfl) (pe_make0 M GI (hr.mono (by decide)) (by rfl) gC bI .nil pass0))
      (pss_cons (ps_set (i := 3) scPn.nd rfl (.inl rfl) (pe_meth (pv 2) T.cls m2 G2 (hr.mono (by decide)) b2 .nil pass0 (pa_cons pe_str pa_nil)))
      (pss_cons (ps_set (i := 4) scPn.nd rfl (.inl rfl) (pe_lst (pa_cons (pv 3) pa_nil)))
      (pss_cons (ps_set (i := 5) scPn.nd rfl (.inl rfl) (pe_glob (v := .int 0) (by rfl) g0 ⟨_, rfl⟩))
      (pss_cons (ps_for PassesOwn.never rfl (pi_str (pv 1)) (pg_name (i := 6) scPn.nd rfl (.inl rfl)) (pss_one (ps_if (pt_cmpR op_eq (pv 6) pe_str (nomark _)) (pss_cons (ps_expr (pe_meth (pv 2) T.cls m3 G3 (hr.mono (by decide)) b3 .nil pass0 (pa_cons (pv 5) (pa_cons (pe_ix (ixT (K := K) rfl) (pe_ix (ixL (K := K) rfl) (pv 4) (pe_un un_neg pe_int) (fun _ _ => rfl)) pe_int (fun _ _ => rfl)) pa_nil))))
      (pss_one (ps_set (i := 5) scPn.nd rfl (.inl rfl) (pe_ix (ixT (K := K) rfl) (pe_ix (ixL (K := K) rfl) (pv 4) (pe_un un_neg pe_int) (fun _ _ => rfl)) pe_int (fun _ _ => rfl))))) (pss_one (ps_if (pt_cmpR op_eq (pv 6) pe_str (nomark _)) (pss_cons (ps_expr (pe_meth (pv 2) T.cls m3 G3 (hr.mono (by decide)) b3 .nil pass0 (pa_cons (pe_ix (ixT (K := K) rfl) (pv 3) pe_int (fun _ _ => rfl)) (pa_cons (pe_ix (ixT (K := K) rfl) (pv 3) pe_int (fun _ _ => rfl)) pa_nil))))
      (pss_one (ps_expr (pe_meth (pv 2) T.cls m3 G3 (hr.mono (by decide)) b3 .nil pass0 (pa_cons (pe_ix (ixT (K := K) rfl) (pv 3) pe_int (fun _ _ => rfl)) (pa_cons (pe_ix (ixT (K := K) rfl) (pv 3) pe_int (fun _ _ => rfl)) pa_nil)))))) (pss_one (ps_if (pt_cmpR op_eq (pv 6) pe_str (nomark _)) (pss_cons (ps_set (i := 3) scPn.nd rfl (.inl rfl) (pe_bm0 PySem.F.plainAttrs_list PySem.F.slot_list_pop PySem.F.type_list_pop mt_pop (pv 4)))
      (pss_cons (ps_expr (pe_meth (pv 2) T.cls m3 G3 (hr.mono (by decide)) b3 .nil pass0 (pa_cons (pv 5) (pa_cons (pe_ix (ixT (K := K) rfl) (pv 3) pe_int (fun _ _ => rfl)) pa_nil))))
      (pss_one (ps_set (i := 5) scPn.nd rfl (.inl rfl) (pe_ix (ixT (K := K) rfl) (pv 3) pe_int (fun _ _ => rfl)))))) (pss_cons (ps_set (i := 3) scPn.nd rfl (.inl rfl) (pe_meth (pv 2) T.cls m2 G2 (hr.mono (by decide)) b2 .nil pass0 (pa_cons (pe_cl c4 hr (by decide) (by rfl) (pa_cons (pv 0) (pa_cons (pv 6) pa_nil))) pa_nil)))
      (pss_cons (ps_expr (pe_meth (pv 2) T.cls m3 G3 (hr.mono (by decide)) b3 .nil pass0 (pa_cons (pv 5) (pa_cons (pe_ix (ixT (K := K) rfl) (pv 3) pe_int (fun _ _ => rfl)) pa_nil))))
      (pss_cons (ps_set (i := 5) scPn.nd rfl (.inl rfl) (pe_ix (ixT (K := K) rfl) (pv 3) pe_int (fun _ _ => rfl)))
      (pss_one (ps_if (pt_cmpR op_eq (pv 6) pe_str (nomark _)) (pss_cons (ps_expr (pe_bm PySem.F.plainAttrs_list PySem.F.slot_list_append PySem.F.type_list_append mt_append (pv 4) (pa_cons (pv 3) pa_nil)))
      (pss_one (ps_set (i := 5) scPn.nd rfl (.inl rfl) (pe_ix (ixT (K := K) rfl) (pv 3) pe_int (fun _ _ => rfl))))) pss_nil))))))))))))
      (pss_cons (ps_expr (pe_meth (pv 2) T.cls m3 G3 (hr.mono (by decide)) b3 .nil pass0 (pa_cons (pv 5) (pa_cons (pe_glob (v := .int 1) (by rfl) g1 ⟨_, rfl⟩) pa_nil))))
      (pss_one (ps_ret (pv 2))))))))), ?_⟩
    intro n dx nn nd nne
    refine ⟨n, dx, rfl, upd_same, fun H1 R J k1 nR nJ hN1 => ⟨rfl, ?_⟩⟩
    have back : ∀ {a : Addr}, upd (upd H dx (.own n)) n (.ins C dx []) a = none → H a = none := fun {a} e => by
      have na : a ≠ n := fun z => by rw [z, upd_same] at e; cases e
      rw [upd_ne na] at e
      have nd' : a ≠ dx := fun z => by rw [z, upd_same] at e; cases e
      rw [upd_ne nd'] at e
      exact e
    have s1 : Same H H1 := fun b o e => k1 _ _ (ne_of_none e nn) (by rw [upd_ne (ne_of_none e nn), upd_ne (ne_of_none e nd)]; exact e)
    have fR := back nR
    have fJ := back nJ
    obtain ⟨dx1, hn1⟩ := hN1.ins
    refine ⟨_, rfl, n, dx1, _, rfl, hn1, rfl, n, R, J, [], ⟨[], []⟩, [], rfl, hN1, rfl, Nat.zero_le _, fun H2 pc B1 B2 npc n1 n2 k2 hpc hN2 => ?_⟩
    have s2 : Same H H2 := fun b o e => k2 _ _ (fun z => by rw [z, fR] at e; cases e) (fun z => by rw [z, fJ] at e; cases e) (s1 _ _ e)
    refine ⟨_, rfl, (by show 1 ≤ sizeLine; decide), fun G nG => ?_⟩
    have sG := same_new (o := .lst [V.ref pc]) nG
    have fG : H G = none := none_of s2 nG
    obtain ⟨H3, eH3⟩ : ∃ H3, H3 = upd H2 G (.lst [V.ref pc]) := ⟨_, rfl⟩
    rw [← eH3]
    have st0 : PnS H H3 C n R J ([] ++ [B1, B2]) G pc [pc] ((⟨[], []⟩ : Pt.Net).piece []) (0, 1) [(0, 1)] := by
      rw [eH3]
      refine ⟨s2.trans sG, hN2.keep sG, nn, fR, fJ, fun b hb => ?_, fG, sG _ _ hpc, upd_same, .cons (sG _ _ hpc) .nil, fun m => ?_⟩
      · simp at hb
        rcases hb with rfl | rfl
        · exact none_of s1 n1
        · exact none_of s1 n2
      · have m : G ∈ (R :: J :: ([] ++ [B1, B2])) := m
        have hR2 := hN2.rd
        have hJ2 := hN2.jp
        rcases List.mem_cons.mp m with e | m
        · rw [← e, nG] at hR2; cases hR2
        · rcases List.mem_cons.mp m with e | m
          · rw [← e, nG] at hJ2; cases hJ2
          · obtain ⟨l, hl2⟩ := paired_mem hN2.ls m
            rw [nG] at hl2
            cases hl2
    have net := Pt.run_net hg hok
    refine ⟨_, rfl, S (Pt.tx x), rfl, for_it (walk_str (z := S (Pt.tx x))) (fun i σ H' => ∃ (js gas : List Addr) (pc : Addr) (t : Pt.St) (v6 : Option V), σ = [some (tx gs), some (tx (Pt.tx x)), some (.ref n), some (.ref pc), some (.ref G), some (iv t.now), v6] ∧
        PnS H H' C n R J js G pc gas t.N t.pc t.gr ∧ Pt.OkSt i t ∧ Pt.safe gs t ((Pt.tx x).drop i) ∧ ((Pt.tx x).drop i).foldl (Pt.stp gs) t = (Pt.tx x).foldl (Pt.stp gs) Pt.st0)
      ⟨_, [pc], pc, Pt.st0, none, rfl, st0, Pt.ok0, net.1, rfl⟩ (fun _ _ _ _ _ => trivial) ?_ ?_⟩
    · rintro i v σ H4 H5 hi ⟨js, gas, pc, t, v6, rfl, ps, okt, sf, fo⟩ ⟨rfl, c, hc, rfl⟩
      have hc2 : (Pt.tx x)[i]? = some c := by rw [← List.getElem?_toArray]; exact hc
      have hil : i < (Pt.tx x).length := (List.getElem?_eq_some_iff.mp hc2).1
      have ed : (Pt.tx x).drop i = c :: (Pt.tx x).drop (i + 1) := by
        rw [List.drop_eq_getElem_cons hil]
        congr 1
        exact (List.getElem?_eq_some_iff.mp hc2).2
      rw [ed] at sf fo
      obtain ⟨sf1, sf2⟩ := sf
      have okt2 := okt.step (gs := gs) sf1
      have fo : ((Pt.tx x).drop (i + 1)).foldl (Pt.stp gs) (Pt.stp gs t c) = _ := fo
      have jlen : t.N.jumps.length = t.N.reads.length := okt.wf
      have jl : ∀ l ∈ t.N.jumps, l.length ≤ 10000 := fun l m => Nat.le_trans (okt.jl l m) (by omega)
      have rlen : t.N.reads.length ≤ 10000 := Nat.le_trans okt.len (by omega)
      obtain ⟨dn, hn⟩ := ps.net.ins
      dsimp only [gName, tSeq, tAsg, List.set_cons_zero, List.set_cons_succ]
      refine ⟨_, rfl, rfl, _, rfl, ?_⟩
      show (if decide (V.str (S [c]) = V.str (S [124])) = true then _ else _)
      rw [dec_sg]
      have topAt : c = 124 ∨ c = 41 → ∃ a gas' , gas = a :: gas' ∧ H5 a = some (.tup [iv (Pt.top t).1, iv (Pt.top t).2]) ∧ t.gr = Pt.top t :: t.gr.tail ∧ Paired (fun a (g : Nat × Nat) => H5 a = some (.tup [iv g.1, iv g.2])) gas' t.gr.tail := fun z => by
        have hne := sf1 z
        have hp := ps.gts
        unfold Pt.top
        generalize t.gr = gr at hne hp ⊢
        cases hp with
        | nil => exact absurd rfl hne
        | cons h t => exact ⟨_, _, rfl, h, rfl, t⟩
      by_cases h1 : c = 124
      · rw [decide_eq_true h1]
        refine iteT ?_
        obtain ⟨a, gas', rfl, ha, egr, hp'⟩ := topAt (.inl h1)
        have hG := ps.grl
        rw [List.reverse_cons, List.map_append] at hG
        have hG : H5 G = some (.lst (gas'.reverse.map V.ref ++ [V.ref a])) := hG
        have es : Pt.stp gs t c = ⟨t.N.link t.now (Pt.top t).2, t.gr, (Pt.top t).1, t.pc⟩ := by unfold Pt.stp; rw [if_pos h1]
        rw [es] at okt2 sf2 fo
        refine ⟨_, rfl, n, dn, _, rfl, hn, rfl, _, rfl, _, rfl, 1, rfl, G, _, -1, _, rfl, rfl, sqL hG, atI_last _ _, a, _, 1, _, rfl, rfl, sqT ha, atI_nat (j := 1) rfl, n, R, J, js, t.N, t.now, (Pt.top t).2, rfl, ps.net, by rw [jlen]; exact okt.now, fun l m => Nat.le_trans (jl l m) (by decide), fun H6 k6 hN6 => ?_⟩
        have ps6 := ps.link k6 hN6
        have hG6 : H6 G = some (.lst (gas'.reverse.map V.ref ++ [V.ref a])) := by rw [ps6.grl, List.reverse_cons, List.map_append]; rfl
        have ha6 := k6 _ _ (ps.tupOff ha) ha
        exact ⟨_, rfl, 1, rfl, G, _, -1, _, rfl, rfl, sqL hG6, atI_last _ _, a, _, 0, _, rfl, rfl, sqT ha6, atI_nat (j := 0) rfl, js, a :: gas', pc, _, _, rfl, ps6, okt2, sf2, fo⟩
      rw [decide_eq_false h1]
      refine iteF ?_
      refine ⟨_, rfl, rfl, _, rfl, ?_⟩
      show (if decide (V.str (S [c]) = V.str (S [42])) = true then _ else _)
      rw [dec_sg]
      by_cases h2 : c = 42
      · rw [decide_eq_true h2]
        refine iteT ?_
        have es : Pt.stp gs t c = ⟨(t.N.link t.pc.1 t.pc.2).link t.pc.2 t.pc.1, t.gr, t.now, t.pc⟩ := by unfold Pt.stp; rw [if_neg h1, if_pos h2]
        rw [es] at okt2 sf2 fo
        refine ⟨_, rfl, n, dn, _, rfl, hn, rfl, _, rfl, pc, _, 0, _, rfl, rfl, sqT ps.pcs, atI_nat (j := 0) rfl, _, rfl, pc, _, 1, _, rfl, rfl, sqT ps.pcs, atI_nat (j := 1) rfl, n, R, J, js, t.N, t.pc.1, t.pc.2, rfl, ps.net, by rw [jlen]; exact okt.p1, fun l m => Nat.le_trans (jl l m) (by decide), fun H6 k6 hN6 => ?_⟩
        have ps6 := ps.link k6 hN6
        obtain ⟨dn6, hn6⟩ := ps6.net.ins
        refine ⟨_, rfl, n, dn6, _, rfl, hn6, rfl, _, rfl, pc, _, 1, _, rfl, rfl, sqT ps6.pcs, atI_nat (j := 1) rfl, _, rfl, pc, _, 0, _, rfl, rfl, sqT ps6.pcs, atI_nat (j := 0) rfl, n, R, J, js, _, t.pc.2, t.pc.1, rfl, ps6.net, by show t.pc.2 < (t.N.jumps.modify _ _).length; rw [List.length_modify, jlen]; exact okt.p2, fun l m => Nat.le_trans (Pt.link_len jl l m) (by decide), fun H7 k7 hN7 => ?_⟩
        exact ⟨js, gas, pc, ⟨(t.N.link t.pc.1 t.pc.2).link t.pc.2 t.pc.1, t.gr, t.now, t.pc⟩, _, rfl, ps6.link k7 hN7, okt2, sf2, fo⟩
      rw [decide_eq_false h2]
      refine iteF ?_
      refine ⟨_, rfl, rfl, _, rfl, ?_⟩
      show (if decide (V.str (S [c]) = V.str (S [41])) = true then _ else _)
      rw [dec_sg]
      by_cases h3 : c = 41
      · rw [decide_eq_true h3]
        refine iteT ?_
        obtain ⟨a, gas', rfl, ha, egr, hp'⟩ := topAt (.inr h3)
        have hG := ps.grl
        rw [List.reverse_cons, List.map_append] at hG
        have hG : H5 G = some (.lst (gas'.reverse.map V.ref ++ [V.ref a])) := hG
        have es : Pt.stp gs t c = ⟨t.N.link t.now (Pt.top t).2, t.gr.tail, (Pt.top t).2, Pt.top t⟩ := by unfold Pt.stp; rw [if_neg h1, if_neg h2, if_pos h3]
        rw [es] at okt2 sf2 fo
        refine ⟨_, rfl, .inl ⟨rfl, _, sqL hG⟩, G, _, _, rfl, rfl, hG, (get_lastV (v := .ref a)), ?_⟩
        rw [List.dropLast_concat]
        have ps6 := ps.grp hp'
        have ha6 : upd H5 G (.lst (gas'.reverse.map V.ref)) a = some (.tup [iv (Pt.top t).1, iv (Pt.top t).2]) := by rw [upd_ne (ne_of ha hG (fun z => nomatch z))]; exact ha
        generalize upd H5 G (.lst (gas'.reverse.map V.ref)) = H6 at ps6 ha6 ⊢
        obtain ⟨dn6, hn6⟩ := ps6.net.ins
        dsimp only [gName, tSeq, tAsg, List.set_cons_zero, List.set_cons_succ]
        refine ⟨_, rfl, n, dn6, _, rfl, hn6, rfl, _, rfl, _, rfl, a, _, 1, _, rfl, rfl, sqT ha6, atI_nat (j := 1) rfl, n, R, J, js, t.N, t.now, (Pt.top t).2, rfl, ps6.net, by rw [jlen]; exact okt.now, fun l m => Nat.le_trans (jl l m) (by decide), fun H7 k7 hN7 => ?_⟩
        have ps7 := ps6.link k7 hN7
        have ha7 := k7 _ _ (ps6.tupOff ha6) ha6
        exact ⟨_, rfl, a, _, 1, _, rfl, rfl, sqT ha7, atI_nat (j := 1) rfl, js, gas', a, _, _, rfl, { ps7 with pcs := ha7 }, okt2, sf2, fo⟩
      rw [decide_eq_false h3]
      refine iteF ?_
      have wf := okt.wf
      refine ⟨_, rfl, n, dn, _, rfl, hn, rfl, _, rfl, _, rfl, gs, c, rfl, hgl, ?_⟩
      refine ⟨n, R, J, js, t.N, Pt.rl gs c, rfl, ps.net, wf, Nat.le_trans rlen (by decide), fun H6 pt B1 B2 npt n1 n2 k6 hpt hN6 => ?_⟩
      have ps6 := ps.piece (u := (t.N.reads.length, t.N.reads.length + 1)) n1 n2 k6 hpt hN6
      obtain ⟨dn6, hn6⟩ := ps6.net.ins
      dsimp only [gName, tSeq, tAsg, List.set_cons_zero, List.set_cons_succ]
      refine ⟨_, rfl, n, dn6, _, rfl, hn6, rfl, _, rfl, _, rfl, pt, _, 0, _, rfl, rfl, sqT hpt, atI_nat (j := 0) rfl, n, R, J, _, _, t.now, t.N.reads.length, rfl, hN6, ?_, fun l m => Nat.le_trans (Pt.piece_len jl l m) (by decide), fun H7 k7 hN7 => ?_⟩
      · show t.now < (t.N.jumps ++ [[], []]).length
        rw [List.length_append, jlen]
        exact Nat.lt_of_lt_of_le okt.now (Nat.le_add_right _ _)
      have ps7 := ps6.link k7 hN7
      have hpt7 := ps7.pcs
      dsimp only [gName, tSeq, tAsg, List.set_cons_zero, List.set_cons_succ]
      refine ⟨_, rfl, pt, _, 1, _, rfl, rfl, sqT hpt7, atI_nat (j := 1) rfl, ?_⟩
      dsimp only [gName, tSeq, tAsg, List.set_cons_zero, List.set_cons_succ]
      refine ⟨_, rfl, rfl, _, rfl, ?_⟩
      show (if decide (V.str (S [c]) = V.str (S [40])) = true then _ else _)
      rw [dec_sg]
      by_cases h4 : c = 40
      · rw [decide_eq_true h4]
        refine iteT ?_
        have es : Pt.stp gs t c = ⟨(t.N.piece (Pt.rl gs c)).link t.now t.N.reads.length, (t.N.reads.length, t.N.reads.length + 1) :: t.gr, t.N.reads.length, (t.N.reads.length, t.N.reads.length + 1)⟩ := by unfold Pt.stp; rw [if_neg h1, if_neg h2, if_neg h3, if_pos h4]
        rw [es] at okt2 sf2 fo
        have lg : gas.length ≤ 1000 := by
          have := Paired.length ps.gts
          have := okt.gl
          omega
        refine ⟨_, rfl, .inl ⟨rfl, _, sqL ps7.grl⟩, _, rfl, G, _, _, rfl, rfl, ps7.grl, by rw [List.length_map, List.length_reverse, sizeLine_eq]; omega, ?_⟩
        have ps8 := ps7.grp (gas' := pt :: gas) (gr' := (t.N.reads.length, t.N.reads.length + 1) :: t.gr) (.cons hpt7 ps7.gts)
        rw [List.reverse_cons, List.map_append] at ps8
        exact ⟨_, rfl, pt, _, 0, _, rfl, rfl, sqT ps8.pcs, atI_nat (j := 0) rfl, _, pt :: gas, pt, ⟨(t.N.piece (Pt.rl gs c)).link t.now t.N.reads.length, (t.N.reads.length, t.N.reads.length + 1) :: t.gr, t.N.reads.length, (t.N.reads.length, t.N.reads.length + 1)⟩, _, rfl, ps8, okt2, sf2, fo⟩
      · rw [decide_eq_false h4]
        refine iteF ?_
        have es : Pt.stp gs t c = ⟨(t.N.piece (Pt.rl gs c)).link t.now t.N.reads.length, t.gr, t.N.reads.length + 1, (t.N.reads.length, t.N.reads.length + 1)⟩ := by unfold Pt.stp; rw [if_neg h1, if_neg h2, if_neg h3, if_neg h4]
        rw [es] at okt2 sf2 fo
        exact ⟨_, _, pt, _, _, rfl, ps7, okt2, sf2, fo⟩
    · rintro σ H4 ⟨js, gas, pc, t, v6, rfl, ps, okt, sf, fo⟩
      have el : (Pt.tx x).drop (S (Pt.tx x)).cps.size = [] := List.drop_eq_nil_of_le (Nat.le_of_eq rfl)
      rw [el] at fo
      have fo : t = _ := fo
      obtain ⟨dn, hn⟩ := ps.net.ins
      have jlen : t.N.jumps.length = t.N.reads.length := okt.wf
      have hsz : (S (Pt.tx x)).cps.size ≤ 1000 := hl
      dsimp only [gName, tSeq, tAsg, List.set_cons_zero, List.set_cons_succ]
      refine ⟨_, rfl, n, dn, _, rfl, hn, rfl, _, rfl, n, R, J, js, t.N, t.now, 1, rfl, ps.net, by rw [jlen]; exact okt.now, fun l m => Nat.le_trans (okt.jl l m) (by omega), fun H6 k6 hN6 => ?_⟩
      have ps6 := ps.link k6 hN6
      refine ⟨_, rfl, q H6 n R J js ps6.same nn ?_⟩
      have e := net.2
      rw [← fo] at e
      rw [← e]
      exact hN6
end
end Own

namespace Own
open PySem PySem.Spec PyProof.Rows L2 SX RZ
section
variable {P : Program} {w : World} {K : PySem.W.Frag} {mg : Str → Option Value} {base : Heap}
/-! ### where the jumps lead -/
def kTr (ks : List Nat) : List (Key × V) := ks.map fun n => (kI n, V.bl true)
theorem kTr_val {n : Nat} : ∀ {ks : List Nat}, valV (kTr ks) (kI n) = if n ∈ ks then some (V.bl true) else none
  | [] => rfl
  | k :: ks => by
    show valV ((kI k, V.bl true) :: kTr ks) (kI n) = _
    by_cases e : k = n
    · subst e
      rw [if_pos (List.mem_cons_self ..)]
      unfold valV
      rw [List.find?_cons, decide_eq_true rfl]
      rfl
    · rw [valV_neg (p := (kI k, V.bl true)) (fun z => e (kI_inj _ _ z)), kTr_val]
      simp [Ne.symm e]
theorem kTr_put {ks : List Nat} {n : Nat} (h : n ∉ ks) : putK (kTr ks) (kI n) (V.bl true) = kTr (ks ++ [n]) := by
  rw [putK_new _ (by rw [kTr_val, if_neg h])]
  unfold kTr
  rw [List.map_append]
  rfl
theorem kTr_len {ks : List Nat} : (kTr ks).length = ks.length := List.length_map ..
theorem kTr_get {ks : List Nat} {i : Nat} {k : Key} {v : V} (h : (kTr ks)[i]? = some (k, v)) : ∃ n, ks[i]? = some n ∧ k = kI n := by
  unfold kTr at h
  rw [List.getElem?_map] at h
  cases e : ks[i]? with
  | none => rw [e] at h; cases h
  | some n => rw [e] at h; cases h; exact ⟨n, rfl, rfl⟩
/-- what is asked of a net -/
structure NetW (N : Pt.Net) : Prop where
  wf : Pt.Wf N
  two : 2 ≤ N.reads.length
  len : N.reads.length ≤ 3000
  jl : ∀ l ∈ N.jumps, l.length ≤ 10000
  jb : ∀ a b, Pt.Jp N a b → b < N.reads.length
  rb : ∀ n l, N.reads[n]? = some l → l ≠ [] → n + 1 < N.reads.length
def spJu (C : Addr) : Sp := fun vs H Q _ => ∃ (p b R J : Addr) (js : List Addr) (N : Pt.Net) (l : List Nat), vs = [.ref p, .ref b] ∧ NetA H C p R J js N ∧ NetW N ∧ H b = some (.lst (ivs l)) ∧ l.Nodup ∧ (∀ t ∈ l, t < N.reads.length) ∧
  ∀ H' b', Same H H' → H' b' = some (.tup (ivs (Pt.jmp N (· ∈ l)))) → Q (.ref b') H'
abbrev sJu : Stmt := topS 45
abbrev juN : List Str := ["net", "nodes", "node", "seen", "waiting", "now"]
theorem scJu : FnScope juN ["net", "nodes"] (defScope sJu) := ⟨rfl, rfl, rfl, by decide +kernel, rfl, by decide +kernel, by decide +kernel⟩
theorem ok_ju {f C : Addr} {fd : FuncData} (F : Fun K "jumped" "jumped" sJu f fd) (T : NeC K C) (mL : mg "list" = none) (mS : mg "sorted" = none) (mT : mg "tuple" = none) (g1 : ∃ t, mg "LAST_NODE" = some (.int 1 t)) : FnOk P w K mg base CX0 1 f fd ["net", "nodes"] (spJu C) := by
  obtain ⟨t1, g1⟩ := g1
  refine F.ok scJu (fun vs H Q E h => ?_) (fun cdv A outer s H vs Q E hr h => ?_)
  · obtain ⟨p, b, R, J, js, N, l, rfl, _⟩ := h
    rfl
  · obtain ⟨p, b, R, J, js, N, l, rfl, hN, hW, hb, hn, hlt, q⟩ := h
    have hu := hu_of hr
    refine ⟨_, pss_cons (ps_setDc (i := 3) (own := [("node", 2)]) (g := gName 2) (tt := tYes) (tk := tVar 2) rfl scJu.nd rfl rfl (sw_trueD rfl rfl rfl (by decide +kernel)) (pi_list (pv 1))
          (blkOk_by (N := juN) (sc := defScope sJu) (by decide +kernel)) (fun _ _ _ _ _ => pg_name (i := 2) scJu.nd rfl (Or.inl rfl)) (fun _ _ _ _ _ => pts_nil) (fun _ _ _ _ _ => pv 2) (fun _ _ _ _ _ => pe_bl))
      (pss_cons (ps_set (i := 4) scJu.nd rfl (by first | exact .inl rfl | exact .inr rfl) (pe_callTy call_list_of (by rfl) mL (by decide +kernel) (pa_cons (pv 1) pa_nil)))
      (pss_cons (ps_while PassesOwn.never (pt_truth (pv 4) (fun _ => rfl))
        (pss_cons (ps_set (i := 5) scJu.nd rfl (by first | exact .inl rfl | exact .inr rfl) (pe_bm0 PySem.F.plainAttrs_list PySem.F.slot_list_pop PySem.F.type_list_pop mt_pop (pv 4)))
        (pss_one (ps_for PassesOwn.never rfl (pi_list (pe_ix (ixL (K := K) rfl) (pe_fld (pv 0) (by rfl)) (pv 5) (fun _ _ => rfl))) (pg_name (i := 2) scJu.nd rfl (by first | exact .inl rfl | exact .inr rfl))
          (pss_one (ps_if (pt_cmp (pc_dnotin hu (pv 2) (pv 3)))
            (pss_cons (ps_dput hu (pv 3) (pv 2) pe_bl rfl)
            (pss_one (ps_expr (pe_bm PySem.F.plainAttrs_list PySem.F.slot_list_append PySem.F.type_list_append mt_append (pv 4) (pa_cons (pv 2) pa_nil))))) pss_nil))))))
      (pss_one (ps_ret (pe_callTy call_tuple_of (by rfl) mT (by decide +kernel) (pa_cons (pe_callB cr_sortedI (by rfl) mS (by decide +kernel) (pa_cons
        (pe_lock (pe_lc (own := [("node", 2)]) (g := gName 2) (te := tVar 2) (tt := tOr (tTest (tOp rNe (tOp (rIxL K) (tFld K (tVar 0) "reads") (tVar 2)) (tC (.str (Str.ofString ""))))) (tTest (tOp rEq (tVar 2) (tC (.int 1))))) rfl scJu.nd (pi_keys (pv 3))
          (blkOk_by (N := juN) (sc := defScope sJu) (by decide +kernel)) (fun _ _ _ _ _ => pg_name (i := 2) scJu.nd rfl (Or.inl rfl))
          (fun _ _ _ _ _ => pts_one (PW.pt (pw_or (pt_cmpR op_ne (pe_ix (ixL (K := K) rfl) (pe_fld (pv 0) (by rfl)) (pv 2) (fun _ _ => rfl)) pe_str (nomark _)) (pw_or1 (pt_cmpR op_eq (pv 2) (pe_glob (v := .int 1) (by rfl) g1 ⟨_, rfl⟩) (nomark _))))))
          (fun _ _ _ _ _ => pv 2))) pa_nil)) pa_nil)))))), ?_⟩
    have hlen := hW.len
    have ll : l.length ≤ N.reads.length := Mch.nodup_len hn hlt
    refine ⟨_, rfl, b, rfl, ⟨_, sqL hb⟩, fun S nS => ?_⟩
    refine dc_itM (walk_list (K := K) (a := b) (xs := ivs l)) (fun i H' => Same H H' ∧ H' S = some (.dK (kTr (l.take i)))) ⟨same_new nS, upd_same⟩ (fun i H' _ h => sqL (h.1 _ _ hb)) ?_ ?_
    · rintro i x H2 H3 hi ⟨s2, hS2⟩ ⟨rfl, hx⟩
      obtain ⟨r, hr1, rfl⟩ := ivs_get hx
      have et : l.take (i + 1) = l.take i ++ [r] := by rw [List.take_add_one, hr1]; rfl
      have hnew : r ∉ l.take i := fun z => by
        have n2 : (l.take (i + 1)).Nodup := hn.sublist (List.take_sublist _ _)
        rw [et] at n2
        exact (List.nodup_append.mp n2).2.2 r z r (List.mem_cons_self ..) rfl
      refine ⟨rfl, _, rfl, _, kI r, rfl, hS2, small1000W (by rw [kTr_len, List.length_take]; omega), same_put s2 nS, ?_⟩
      rw [upd_same, kTr_put hnew, et]
    rintro H2 ⟨s2, hS2⟩
    rw [ivs_len, List.take_length] at hS2
    refine ⟨_, rfl, b, ivs l, rfl, .inl (sqL (s2 _ _ hb)), fun D nD => ?_⟩
    have sD := same_new (o := .lst (ivs l)) nD
    have s3 := s2.trans sD
    have hS3 := sD _ _ hS2
    have nSD : S ≠ D := ne_of_none hS2 nD
    have fD : H D = none := none_of s2 nD
    have hD3 : upd H2 D (.lst (ivs l)) D = some (.lst (ivs l)) := upd_same
    generalize upd H2 D (.lst (ivs l)) = H3 at s3 hS3 hD3 ⊢
    clear sD
    let St : Hp → List Nat → List Nat → Prop := fun H' ks wt => Same H H' ∧ H' S = some (.dK (kTr ks)) ∧ H' D = some (.lst (ivs wt)) ∧ (∀ t ∈ l, t ∈ ks) ∧ ks.Nodup ∧ (∀ t ∈ ks, t < N.reads.length ∧ ∃ a, a ∈ l ∧ Pt.JS N a t) ∧ wt.length ≤ ks.length ∧ (∀ t ∈ wt, t ∈ ks)
    refine ⟨fun m σ H' => ∃ (ks wt : List Nat) (o2 o5 : Option V), σ = [some (.ref p), some (.ref b), o2, some (.ref S), some (.ref D), o5] ∧ St H' ks wt ∧ (∀ t ∈ ks, t ∉ wt → ∀ u, Pt.Jp N t u → u ∈ ks) ∧ m = 2 * (N.reads.length - ks.length) + wt.length,
      ⟨_, l, l, _, _, rfl, ⟨s3, hS3, hD3, fun _ h => h, hn, fun t h => ⟨hlt t h, t, h, .refl t⟩, Nat.le_refl _, fun _ h => h⟩, fun t h1 h2 => absurd h1 h2, rfl⟩, ?_⟩
    rintro m σ H4 ⟨ks, wt, o2, o5, rfl, ⟨s4, hS4, hD4, hsub, hnd, hkl, hwl, hwk⟩, hcl, rfl⟩
    have kl : ks.length ≤ N.reads.length := Mch.nodup_len hnd fun t h => (hkl t h).1
    refine ⟨_, rfl, !(ivs wt).isEmpty, .inl ⟨_, sqL hD4, rfl⟩, ?_⟩
    rcases List.eq_nil_or_concat wt with e | ⟨wt0, now, e⟩
    · subst e
      refine iteF ?_
      have hcl : ∀ t ∈ ks, ∀ u, Pt.Jp N t u → u ∈ ks := fun t h => hcl t h (by simp)
      have cl2 : ∀ n m, Pt.JS N n m → n ∈ ks → m ∈ ks := by
        intro n m j
        induction j with
        | refl => exact id
        | step _ q ih => exact fun h => hcl _ (ih h) _ q
      have full : ∀ m, m ∈ ks ↔ ∃ n, n ∈ l ∧ Pt.JS N n m := fun m => ⟨fun h => (hkl m h).2, fun ⟨n, h, j⟩ => cl2 n m j (hsub n h)⟩
      refine ⟨S, _, hS4, True.intro, fun od => ?_⟩
      have hS5 : upd H4 S (.frz od (.dK (kTr ks))) S = some (.frz od (.dK (kTr ks))) := upd_same
      have s5 : Same H (upd H4 S (.frz od (.dK (kTr ks)))) := same_put s4 nS
      generalize upd H4 S (.frz od (.dK (kTr ks))) = H5 at hS5 s5 ⊢
      refine ⟨_, rfl, S, od, rfl, .inl ⟨_, hS5, fun L nL => ?_⟩⟩
      have nLS : L ≠ S := (ne_of_none hS5 nL).symm
      have wk := walk_keys (d := S) (o := od) (kvs := kTr ks)
      rw [kTr_len] at wk
      have wk2 : Walk (Itk S od (kTr ks)) (ivs ks).length (fun H' => Same H5 H') (YAt (ivs ks)) := by
        rw [ivs_len]
        refine ⟨fun i H' hi s => wk.goes i H' hi (s _ _ hS5), fun H' s => wk.stops H' (s _ _ hS5), fun i H' x H'' hi s y => ?_⟩
        obtain ⟨e, k, v, e1, e2⟩ := wk.yields i H' x H'' hi (s _ _ hS5) y
        obtain ⟨n, e3, rfl⟩ := kTr_get e1
        exact ⟨e, by rw [e2]; exact ivs_at e3⟩
      refine lc_pick (g := gName 2) wk2 nL (by rw [ivs_len]; omega) (fun H' s => s) (fun v => match v with | .int i => Pt.dec (Pt.Stay N i.toNat) | _ => false) ?_ ?_
      · intro j x H6 k Nx hx s6 y1 n1
        obtain ⟨t, ht, rfl⟩ := ivs_get hx
        have htl := (hkl t (List.mem_of_getElem? ht)).1
        obtain ⟨⟨dx, hp⟩, hR, _⟩ := hN.keep (s5.trans s6)
        have er : N.reads[t]? = some N.reads[t] := List.getElem?_eq_getElem htl
        refine ⟨rfl, _, rfl, p, C, dx, _, _, rfl, hp, T.cls, T.nr, rfl, _, rfl, ixL_at (sqL hR) (by rw [List.getElem?_map, er]; rfl) ⟨rfl, _, rfl, ?_⟩⟩
        have e1 : decide (tx N.reads[t] = V.str (Str.ofString "")) = decide (N.reads[t] = []) := by
          rw [show V.str (Str.ofString "") = tx [] from rfl, dec_str]
          all_goals (by_cases z : N.reads[t] = [] <;> simp [z])
        rw [e1]
        by_cases z : N.reads[t] = []
        · rw [decide_eq_true z]
          refine ⟨_, rfl, rfl, _, rfl, ?_⟩
          have e2 : decide (iv t = V.int 1) = decide (t = 1) := by
            by_cases h : t = 1
            · rw [h]; rfl
            · rw [decide_eq_false h]
              exact decide_eq_false fun e => h (by injection e with e; omega)
          rw [e2]
          by_cases h : t = 1
          · rw [decide_eq_true h]
            exact ⟨_, rfl, y1 (Pt.dec_iff.mpr (.inr h))⟩
          · rw [decide_eq_false h]
            refine n1 (Bool.eq_false_iff.mpr fun y => ?_)
            rcases Pt.dec_iff.mp y with ⟨r, e3, e4⟩ | e3
            · have e3 : N.reads[t]? = some r := e3
              rw [er] at e3
              cases e3
              exact e4 z
            · exact h e3
        · rw [decide_eq_false z]
          exact ⟨_, rfl, y1 (Pt.dec_iff.mpr (.inl ⟨_, er, z⟩))⟩
      · intro H6 s6 hL6
        have hS6 := s6 _ _ hS5
        refine ⟨hS6, ?_⟩
        have ef : (ivs ks).filter (fun v => match v with | .int i => Pt.dec (Pt.Stay N i.toNat) | _ => false) = ivs (ks.filter fun m => Pt.dec (Pt.Stay N m)) := by
          show (ks.map _).filter _ = (ks.filter _).map _
          rw [List.filter_map]
          rfl
        rw [ef] at hL6
        have hL7 : upd H6 S (.dK (kTr ks)) L = some (.lst (ivs (ks.filter fun m => Pt.dec (Pt.Stay N m)))) := by rw [upd_ne nLS]; exact hL6
        have s7 : Same H (upd H6 S (.dK (kTr ks))) := same_put (s5.trans s6) nS
        generalize upd H6 S (.dK (kTr ks)) = H7 at hL7 s7 ⊢
        refine ⟨L, (ks.filter fun m => Pt.dec (Pt.Stay N m)).map fun (n : Nat) => (n : Int), rfl, sqL (hL7.trans (by rw [List.map_map]; rfl)), fun ns p2 perm srt np2 => ?_⟩
        have e := Pt.jmp_of (N := N) (S := (· ∈ l)) (hnd.sublist List.filter_sublist) (fun m => by
          rw [List.mem_filter, full, Pt.dec_iff]
          exact ⟨fun h => ⟨⟨(hkl m ((full m).mpr h.1)).1, h.2⟩, h.1⟩, fun h => ⟨h.2, h.1.2⟩⟩) perm srt
        subst e
        have s8 := same_new (o := .lst (((Pt.jmp N (· ∈ l)).map fun (n : Nat) => (n : Int)).map V.int)) np2
        refine ⟨p2, _, rfl, .inl ⟨.inl (.inl upd_same), fun b' nb' => ?_⟩⟩
        have s9 := same_new (o := .tup (((Pt.jmp N (· ∈ l)).map fun (n : Nat) => (n : Int)).map V.int)) nb'
        refine q _ _ (s7.trans (s8.trans s9)) (upd_same.trans ?_)
        rw [List.map_map]
        rfl
    · rw [List.concat_eq_append] at e
      subst e
      have hnowk : now ∈ ks := hwk now (List.mem_append_right _ (List.mem_cons_self ..))
      obtain ⟨hnl, a0, ha0, hj0⟩ := hkl now hnowk
      rw [show (!(ivs (wt0 ++ [now])).isEmpty) = true by rw [ivs_app]; cases ivs wt0 <;> rfl]
      refine ⟨_, fun σ' H' h => h, ?_⟩
      refine ⟨_, rfl, .inl ⟨rfl, _, sqL hD4⟩, D, _, iv now, rfl, rfl, hD4, ?_, ?_⟩
      · rw [ivs_app]
        show (ivs wt0 ++ [iv now])[_]? = _
        rw [List.length_append]
        simp
      have ed : (ivs (wt0 ++ [now])).dropLast = ivs wt0 := by rw [ivs_app]; exact List.dropLast_concat
      rw [ed]
      have s5 : Same H (upd H4 D (.lst (ivs wt0))) := same_put s4 fD
      have hD5 : upd H4 D (.lst (ivs wt0)) D = some (.lst (ivs wt0)) := upd_same
      have hS5 : upd H4 D (.lst (ivs wt0)) S = some (.dK (kTr ks)) := by rw [upd_ne nSD]; exact hS4
      rw [List.length_append] at hwl
      have hwl : wt0.length + 1 ≤ ks.length := hwl
      generalize upd H4 D (.lst (ivs wt0)) = H5 at s5 hD5 hS5 ⊢
      dsimp only [gName, tSeq, tAsg, List.set_cons_zero, List.set_cons_succ]
      obtain ⟨⟨dx, hp⟩, hR, hJ, hP, _⟩ := hN.keep s5
      have hjl : now < N.jumps.length := by rw [hW.wf]; exact hnl
      obtain ⟨b2, b1, b3⟩ := Paired.at hP (get_of_lt (d := []) hjl)
      have hrow : ∀ t ∈ N.jumps.getD now [], Pt.Jp N now t := fun t ht => ⟨_, get_of_lt (d := []) hjl, ht⟩
      have b0 : H b2 = some (.lst (ivs (N.jumps.getD now []))) := by
        obtain ⟨b2', e1, e2⟩ := Paired.at hN.ls (get_of_lt (d := []) hjl)
        rw [b1] at e1
        cases e1
        exact e2
      refine ⟨_, rfl, p, C, dx, _, _, rfl, hp, T.cls, T.nj, rfl, _, rfl, ixL_at (sqL hJ) (by rw [List.getElem?_map, b1]; rfl) ⟨b2, rfl, ⟨_, sqL b3⟩, ?_⟩⟩
      refine for_it (walk_list (K := K) (a := b2) (xs := ivs (N.jumps.getD now []))) (fun i σ H' => ∃ (ks2 wt2 : List Nat) (o2 : Option V), σ = [some (.ref p), some (.ref b), o2, some (.ref S), some (.ref D), some (iv now)] ∧ St H' ks2 wt2 ∧ (∀ t ∈ ks, t ∈ ks2) ∧ (∀ t ∈ ks2, t ∉ wt2 → t ∈ ks ∧ t ∉ wt0) ∧ wt2.length + ks.length = wt0.length + ks2.length ∧ (∀ t ∈ (N.jumps.getD now []).take i, t ∈ ks2))
        ⟨ks, wt0, _, rfl, ⟨s5, hS5, hD5, hsub, hnd, hkl, by omega, fun t h => hwk t (List.mem_append_left _ h)⟩, fun _ h => h, fun t h1 h2 => ⟨h1, h2⟩, rfl, fun t h => by rw [List.take_zero] at h; exact nomatch h⟩ (fun i σ H' _ ⟨_, _, _, _, h, _⟩ => sqL (h.1 _ _ b0)) ?_ ?_
      · rintro i x σ H6 H7 hi ⟨ks2, wt2, o2', rfl, ⟨s6, hS6, hD6, hsub2, hnd2, hkl2, hwl2, hwk2⟩, hks, hcl2, hlen, htk⟩ ⟨rfl, hx⟩
        obtain ⟨t, ht, rfl⟩ := ivs_get hx
        have hjt := hrow t (List.mem_of_getElem? ht)
        have htl := hW.jb _ _ hjt
        have et : (N.jumps.getD now []).take (i + 1) = (N.jumps.getD now []).take i ++ [t] := by rw [List.take_add_one, ht]; rfl
        have kl2 : ks2.length ≤ N.reads.length := Mch.nodup_len hnd2 fun t h => (hkl2 t h).1
        dsimp only [gName, List.set_cons_zero, List.set_cons_succ]
        refine if_pick (t ∉ ks2) (fun hc => ?_) (fun hc => ?_) (fun kk k1 k2 => ?_)
        · refine ⟨_, rfl, _, rfl, S, _, rfl, DPut.k (k := kI t) hS6 (small1000W (by rw [kTr_len]; omega)), ?_⟩
          rw [kTr_put hc]
          have hD7 : (upd H7 S (.dK (kTr (ks2 ++ [t])))) D = some (.lst (ivs wt2)) := by rw [upd_ne nSD.symm]; exact hD6
          refine ⟨_, rfl, .inl ⟨rfl, _, sqL hD7⟩, _, rfl, D, _, _, rfl, rfl, hD7, small1000W (by rw [ivs_len]; omega), ks2 ++ [t], wt2 ++ [t], _, rfl, ⟨same_put (same_put s6 nS) fD, by rw [upd_ne nSD, upd_same], by rw [upd_same, ivs_app]; rfl, fun u h => List.mem_append_left _ (hsub2 u h), List.nodup_append.mpr ⟨hnd2, by simp, fun u h1 v h2 e => by rw [List.mem_singleton.mp h2] at e; exact hc (e ▸ h1)⟩, fun u h => ?_, by rw [List.length_append, List.length_append]; show wt2.length + 1 ≤ ks2.length + 1; omega, fun u h => ?_⟩, fun u h => List.mem_append_left _ (hks u h), fun u h1 h2 => ?_, by rw [List.length_append, List.length_append]; show wt2.length + 1 + _ = wt0.length + (ks2.length + 1); omega, fun u h => ?_⟩
          · rcases List.mem_append.mp h with z | z
            · exact hkl2 u z
            · rw [List.mem_singleton.mp z]; exact ⟨htl, a0, ha0, hj0.step hjt⟩
          · rcases List.mem_append.mp h with z | z
            · exact List.mem_append_left _ (hwk2 u z)
            · exact List.mem_append_right _ z
          · rcases List.mem_append.mp h1 with z | z
            · exact hcl2 u z fun y => h2 (List.mem_append_left _ y)
            · exact absurd (List.mem_append_right _ z) h2
          · rw [et] at h
            rcases List.mem_append.mp h with z | z
            · exact List.mem_append_left _ (htk u z)
            · exact List.mem_append_right _ z
        · refine ⟨ks2, wt2, _, rfl, ⟨s6, hS6, hD6, hsub2, hnd2, hkl2, hwl2, hwk2⟩, hks, hcl2, hlen, fun u h => ?_⟩
          rw [et] at h
          rcases List.mem_append.mp h with z | z
          · exact htk u z
          · rw [List.mem_singleton.mp z]; exact Decidable.not_not.mp hc
        · refine ⟨_, rfl, _, rfl, S, _, rfl, DGet.k (k := kI t) hS6, _, rfl, ?_⟩
          rw [kTr_val]
          by_cases z : t ∈ ks2
          · rw [if_pos z]
            exact k2 fun h => h z
          · rw [if_neg z]
            exact k1 z
      · rintro σ H6 ⟨ks2, wt2, o2', rfl, ⟨s6, hS6, hD6, hsub2, hnd2, hkl2, hwl2, hwk2⟩, hks, hcl2, hlen, htk⟩
        rw [ivs_len, List.take_length] at htk
        have kl2 : ks2.length ≤ N.reads.length := Mch.nodup_len hnd2 fun t h => (hkl2 t h).1
        refine ⟨_, ?_, ks2, wt2, _, _, rfl, ⟨s6, hS6, hD6, hsub2, hnd2, hkl2, hwl2, hwk2⟩, fun t h1 h2 u hu2 => ?_, rfl⟩
        · have kle : ks.length ≤ ks2.length := by
            have := List.Nodup.length_le_of_subset hnd (fun t h => hks t h)
            exact this
          rw [List.length_append]
          show 2 * (N.reads.length - ks2.length) + wt2.length < 2 * (N.reads.length - ks.length) + (wt0.length + 1)
          omega
        · obtain ⟨h3, h4⟩ := hcl2 t h1 h2
          by_cases e : t = now
          · subst e
            obtain ⟨r, e1, e2⟩ := hu2
            refine htk u ?_
            rw [List.getD_eq_getElem?_getD, e1]
            exact e2
          · exact hks u (hcl t h3 (fun y => (List.mem_append.mp y).elim h4 fun z => e (List.mem_singleton.mp z)) u hu2)
end
end Own

namespace Own
open PySem PySem.Spec PyProof.Rows L2 SX RZ
section
variable {P : Program} {w : World} {K : PySem.W.Frag} {mg : Str → Option Value} {base : Heap}
/-! ### one letter more -/
theorem get_p {gs : List Nat} {a : Nat} (h : a < gs.length) : gs[a]? = some (gs.getD a 0) := by rw [List.getD_eq_getElem?_getD, List.getElem?_eq_getElem h]; rfl
def spRon (C : Addr) : Sp := fun vs H Q _ => ∃ (p b R J : Addr) (js : List Addr) (N : Pt.Net) (l gs : List Nat) (a : Nat), vs = [.ref p, .ref b, tx [gs.getD a 0]] ∧ a < gs.length ∧ NetA H C p R J js N ∧ NetW N ∧ H b = some (.tup (ivs l)) ∧ l.Nodup ∧ (∀ t ∈ l, t < N.reads.length) ∧
  ∀ H' b', Same H H' → H' b' = some (.tup (ivs (Pt.nx N gs l a))) → Q (.ref b') H'
abbrev sRon : Stmt := topS 46
abbrev ronN : List Str := ["net", "nodes", "letter", "node"]
theorem scRon : FnScope ronN ["net", "nodes", "letter"] (defScope sRon) := ⟨rfl, rfl, rfl, by decide +kernel, rfl, by decide +kernel, by decide +kernel⟩
theorem ok_ron {f f1 C : Addr} {fd fd1 : FuncData} (F : Fun K "read_on" "read_on" sRon f fd) (T : NeC K C) (c1 : Cl P w K mg base "jumped" 1 ["net", "nodes"] (spJu C) f1 fd1) : FnOk P w K mg base CX0 2 f fd ["net", "nodes", "letter"] (spRon C) := by
  refine F.ok scRon (fun vs H Q E h => ?_) (fun cdv A outer s H vs Q E hr h => ?_)
  · obtain ⟨p, b, R, J, js, N, l, gs, a, rfl, _⟩ := h
    rfl
  · obtain ⟨p, b, R, J, js, N, l, gs, a, rfl, ha, hN, hW, hb, hn, hlt, q⟩ := h
    refine ⟨_, pss_one (ps_ret (pe_cl c1 hr (by decide) (by rfl) (pa_cons (pv 0) (pa_cons
        (pe_lc (own := [("node", 3)]) (g := gName 3) (te := tOp (rI0 fun i j => .int (i + j)) (tVar 3) (tC (.int 1))) (tt := tTest (tOp (fun x y H Q => ∃ c z, x = V.str { cps := #[c] } ∧ y = V.str z ∧ Q (V.bl (decide (c ∈ z.cps.toList))) H) (tVar 2) (tOp (rIxL K) (tFld K (tVar 0) "reads") (tVar 3)))) rfl scRon.nd (pi_tup (pv 1))
          (blkOk_by (N := ronN) (sc := defScope sRon) (by decide +kernel)) (fun _ _ _ _ _ => pg_name (i := 3) scRon.nd rfl (Or.inl rfl))
          (fun _ _ _ _ _ => pts_one (pt_cmpR op_in_sign (pv 2) (pe_ix (ixL (K := K) rfl) (pe_fld (pv 0) (by rfl)) (pv 3) (fun _ _ => rfl)) (by rfl)))
          (fun _ _ _ _ _ => pe_op op_add (pv 3) pe_int)) pa_nil)))), ?_⟩
    have hlen := hW.len
    have ll : l.length ≤ N.reads.length := Mch.nodup_len hn hlt
    let f := fun t : Nat => decide (gs.getD a 0 ∈ N.reads.getD t [])
    refine ⟨_, rfl, _, rfl, b, rfl, ⟨_, sqT hb⟩, fun D nD => ?_⟩
    refine lc_it (walk_tup (K := K) (a := b) (xs := ivs l)) (fun i H' => Same H H' ∧ H' D = some (.lst (ivs (((l.take i).filter f).map (· + 1))))) ⟨same_new nD, upd_same⟩ (fun i H' _ h => sqT (h.1 _ _ hb)) ?_ ?_
    · rintro i x H1 H2 hi ⟨s1, hD⟩ ⟨rfl, hx⟩
      obtain ⟨t, ht, rfl⟩ := ivs_get hx
      have htl := hlt t (List.mem_of_getElem? ht)
      have et : l.take (i + 1) = l.take i ++ [t] := by rw [List.take_add_one, ht]; rfl
      obtain ⟨⟨dx, hp⟩, hR, _⟩ := hN.keep s1
      have er : N.reads[t]? = some (N.reads.getD t []) := get_of_lt (d := []) htl
      refine ⟨rfl, _, rfl, _, rfl, p, C, dx, _, _, rfl, hp, T.cls, T.nr, rfl, _, rfl, ixL_at (sqL hR) (by rw [List.getElem?_map, er]; rfl) ⟨gs.getD a 0, S (N.reads.getD t []), rfl, rfl, _, rfl, ?_⟩⟩
      show if decide (gs.getD a 0 ∈ N.reads.getD t []) = true then _ else _
      by_cases z : gs.getD a 0 ∈ N.reads.getD t []
      · rw [decide_eq_true z]
        refine iteT ⟨_, rfl, _, _, rfl, rfl, _, hD, small1000W ?_, same_put s1 nD, ?_⟩
        · rw [ivs_len, List.length_map]
          have := List.length_filter_le f (l.take i)
          rw [List.length_take] at this
          omega
        · rw [upd_same, et, List.filter_append, List.map_append, ivs_app]
          have : [t].filter f = [t] := by rw [List.filter_cons, if_pos (decide_eq_true z)]; rfl
          rw [this]
          rfl
      · rw [decide_eq_false z]
        refine iteF ⟨s1, ?_⟩
        rw [hD, et, List.filter_append]
        have : [t].filter f = [] := by rw [List.filter_cons, if_neg (fun h => z (of_decide_eq_true h))]; rfl
        rw [this, List.append_nil]
    rintro H1 ⟨s1, hD⟩
    rw [ivs_len, List.take_length] at hD
    have mm : ∀ m, m ∈ (l.filter f).map (· + 1) ↔ Pt.rdS N gs l a m := fun m => by
      rw [List.mem_map]
      constructor
      · rintro ⟨n, h, rfl⟩
        obtain ⟨h1, h2⟩ := List.mem_filter.mp h
        exact ⟨n, h1, rfl, _, _, get_of_lt (d := []) (hlt n h1), get_p ha, of_decide_eq_true h2⟩
      · rintro ⟨n, h1, rfl, r, c, e1, e2, e3⟩
        rw [get_p ha] at e2
        cases e2
        refine ⟨n, List.mem_filter.mpr ⟨h1, decide_eq_true ?_⟩, rfl⟩
        rw [List.getD_eq_getElem?_getD, e1]
        exact e3
    refine ⟨p, D, R, J, js, N, (l.filter f).map (· + 1), rfl, hN.keep s1, hW, hD, ?_, fun t ht => ?_, fun H' b' s' hb' => q H' b' (s1.trans s') ?_⟩
    · exact List.Pairwise.map _ (fun x y h e => h (Nat.succ.inj e)) (hn.sublist List.filter_sublist)
    · obtain ⟨n, h1, rfl, r, c, e1, e2, e3⟩ := (mm t).mp ht
      exact hW.rb _ _ e1 (fun z => by rw [z] at e3; cases e3)
    · rw [hb']
      unfold Pt.nx
      rw [Pt.jmp_congr mm]
end
end Own

namespace Own
open PySem PySem.Spec PyProof.Rows L2 SX RZ
section
variable {P : Program} {w : World} {K : PySem.W.Frag} {mg : Str → Option Value} {base : Heap}
theorem cut_tl {x : V} {els : List V} : cutV (x :: els) (some 1) none = els := by
  unfold cutV
  rw [show (some (1 : Int)) = some ((1 : Nat) : Int) from rfl, HT.sIx_nat, HT.sIx_none, List.length_cons, Nat.min_eq_left (Nat.succ_le_succ (Nat.zero_le _))]
  show (List.drop 1 (x :: els)).take (els.length + 1 - 1) = els
  rw [Nat.add_sub_cancel]
  exact List.take_length
theorem tup_keep {H : Hp} {B : Addr} {ys : List V} {o : HO} (hB : H B = some (.lst ys)) : ∀ a xs, H a = some (.tup xs) → upd H B o a = some (.tup xs) := fun a xs h => by
  rw [upd_ne (fun e => by rw [e, hB] at h; cases h)]
  exact h
theorem get_last {l : List V} {v : V} : (l ++ [v])[(l ++ [v]).length - 1]? = some v := by
  rw [List.length_append]
  show (l ++ [v])[l.length + 1 - 1]? = some v
  rw [Nat.add_sub_cancel, List.getElem?_append_right (Nat.le_refl _), Nat.sub_self]
  rfl
theorem inV_ivs (m : Nat) : ∀ l : List Nat, inV (iv m) (ivs l) = decide (m ∈ l)
  | [] => rfl
  | n :: l => by
    have ih := inV_ivs m l
    unfold inV at ih ⊢
    rw [show ivs (n :: l) = iv n :: ivs l from rfl, List.any_cons, ih]
    by_cases e : n = m
    · subst e
      have e1 : eqV (iv n) (iv n) = true := by
        show decide ((n : Int) = (n : Int)) = true
        exact decide_eq_true rfl
      rw [decide_eq_true (List.mem_cons_self ..), e1]
      rfl
    · have e1 : eqV (iv n) (iv m) = false := by
        show decide ((n : Int) = (m : Int)) = false
        exact decide_eq_false (by omega)
      rw [e1, Bool.false_or]
      by_cases z : m ∈ l
      · rw [decide_eq_true z, decide_eq_true (List.mem_cons_of_mem _ z)]
      · rw [decide_eq_false z, decide_eq_false (fun y => (List.mem_cons.mp y).elim (fun h => e h.symm) z)]
theorem flat_ivs (l : List Nat) : (ivs l).all flatV = true := List.all_eq_true.mpr fun v hv => by
  obtain ⟨n, _, rfl⟩ := List.mem_map.mp hv
  rfl
end
end Own

namespace Own
open PySem PySem.Spec PyProof.Rows L2 SX RZ
section
variable {P : Program} {w : World} {K : PySem.W.Frag} {mg : Str → Option Value} {base : Heap}
def addN (acc : List (List Nat)) (n : List Nat) : List (List Nat) := if n ∈ acc then acc else acc ++ [n]
def raw : Cnd.Cd → List (List Nat)
  | .named n => [n]
  | .no c => raw c
  | .two _ a b => raw a ++ raw b
  | _ => []
def nms : Cnd.Cd → List (List Nat)
  | .named n => [n]
  | .no c => nms c
  | .two _ a b => nms a ++ (nms b).filter (fun x => decide (x ∉ nms a))
  | _ => []
theorem raw_nms : ∀ (c : Cnd.Cd) (acc : List (List Nat)), (raw c).foldl addN acc = acc ++ (nms c).filter (fun x => decide (x ∉ acc))
  | .named n, acc => by
    show addN acc n = acc ++ [n].filter (fun x => decide (x ∉ acc))
    unfold addN
    by_cases h : n ∈ acc
    · rw [if_pos h, List.filter_cons_of_neg (by simpa using h)]
      simp
    · rw [if_neg h, List.filter_cons_of_pos (by simpa using h)]
      rfl
  | .no c, acc => raw_nms c acc
  | .two _ a b, acc => by
    show (raw a ++ raw b).foldl addN acc = acc ++ (nms a ++ (nms b).filter (fun x => decide (x ∉ nms a))).filter (fun x => decide (x ∉ acc))
    rw [List.foldl_append, raw_nms a, raw_nms b, List.filter_append, List.filter_filter, List.append_assoc]
    congr 2
    refine List.filter_congr fun x _ => ?_
    by_cases h : x ∈ acc
    · simp [h]
    · by_cases h2 : x ∈ nms a
      · simp [h, h2]
      · simp [h, h2]
  | .mat _, acc | .len _ _, acc | .tpl _ _ _ _ _, acc => by
    show acc = acc ++ []
    rw [List.append_nil]
theorem raw_all (c : Cnd.Cd) : (raw c).foldl addN [] = nms c := by
  rw [raw_nms]
  show (nms c).filter (fun x => decide (x ∉ [])) = nms c
  exact List.filter_eq_self.mpr fun x _ => by simp
abbrev nmV (l : List (List Nat)) : List (L2.Key × V) := l.map fun n => (Sum.inr (S n), V.bl true)
theorem put_nm (acc : List (List Nat)) (n : List Nat) : putK (nmV acc) (Sum.inr (S n)) (.bl true) = nmV (addN acc n) := by
  have e : ∀ x : List Nat, ((Sum.inr (S x) : L2.Key) = Sum.inr (S n)) ↔ x = n := fun x => ⟨fun e => S_inj (Sum.inr.inj e), fun e => by rw [e]⟩
  unfold addN putK
  by_cases h : n ∈ acc
  · rw [if_pos h, if_pos]
    · show (acc.map _).map _ = _
      rw [List.map_map]
      refine List.map_congr_left fun x hx => ?_
      show (if (Sum.inr (S x) : L2.Key) = Sum.inr (S n) then _ else _) = _
      split <;> rfl
    · rw [List.any_map]
      exact List.any_eq_true.mpr ⟨n, h, decide_eq_true rfl⟩
  · rw [if_neg h, if_neg]
    · show _ = (acc ++ [n]).map _
      rw [List.map_append]
      rfl
    · rw [List.any_map]
      intro k
      obtain ⟨x, hx, k⟩ := List.any_eq_true.mp k
      exact h ((e x).mp (of_decide_eq_true k) ▸ hx)
theorem addN_len (acc : List (List Nat)) (n : List Nat) : (addN acc n).length ≤ acc.length + 1 := by
  unfold addN
  split
  · omega
  · rw [List.length_append]; exact Nat.le_refl _
theorem walk_revT {K : PySem.W.Frag} {a : Addr} {xs : List V} : Walk (RT.ItvT K a xs.length) xs.length (fun H => SqT K H a xs) (fun i H x H' => H' = H ∧ xs[xs.length - 1 - i]? = some x) :=
  ⟨fun i _ hi q => ⟨hi, xs, xs[xs.length - 1 - i]'(by omega), q, by simp [show xs.length - 1 - i < xs.length by omega]⟩, fun _ _ => Nat.le_refl _, fun _ _ _ _ _ q y => ⟨y.1, y.2 _ q⟩⟩
def CsV (H : Hp) : List Cnd.Cd → List V → Prop
  | [], [] => True
  | c :: cs, v :: vs => CdH H c v ∧ CsV H cs vs
  | _, _ => False
theorem CsV.keep {H H' : Hp} (k : ∀ a xs, H a = some (.tup xs) → H' a = some (.tup xs)) : ∀ {cs : List Cnd.Cd} {vs : List V}, CsV H cs vs → CsV H' cs vs
  | [], [], h => h
  | _ :: _, _ :: _, ⟨h, i⟩ => ⟨h.keep k, i.keep k⟩
  | [], _ :: _, h => h.elim
  | _ :: _, [], h => h.elim
theorem CsV.len {H : Hp} : ∀ {cs : List Cnd.Cd} {vs : List V}, CsV H cs vs → cs.length = vs.length
  | [], [], _ => rfl
  | _ :: _, _ :: _, ⟨_, i⟩ => congrArg (· + 1) i.len
  | [], _ :: _, h => h.elim
  | _ :: _, [], h => h.elim
def csz (cs : List Cnd.Cd) : Nat := (cs.map Cnd.size).sum
theorem csz_len : ∀ cs : List Cnd.Cd, cs.length ≤ csz cs
  | [] => Nat.le_refl _
  | c :: cs => by
    have := csz_len cs
    have := Cnd.size_pos c
    show cs.length + 1 ≤ Cnd.size c + csz cs
    omega
theorem CsV.app {H : Hp} : ∀ {cs : List Cnd.Cd} {vs : List V} {ds : List Cnd.Cd} {ws : List V}, CsV H cs vs → CsV H ds ws → CsV H (cs ++ ds) (vs ++ ws)
  | [], [], _, _, _, h => h
  | _ :: _, _ :: _, _, _, ⟨h, i⟩, j => ⟨h, i.app j⟩
  | [], _ :: _, _, _, h, _ => h.elim
  | _ :: _, [], _, _, h, _ => h.elim
theorem tup_keepD {H : Hp} {B : Addr} {ys : List (L2.Key × V)} {o : HO} (hB : H B = some (.dK ys)) : ∀ a xs, H a = some (.tup xs) → upd H B o a = some (.tup xs) := fun a xs h => by
  rw [upd_ne (fun e => by rw [e, hB] at h; cases h)]
  exact h
abbrev kws3 : List V := [.str (Str.ofString "not"), .str (Str.ofString "and"), .str (Str.ofString "or")]
theorem kids {H : Hp} : ∀ {c : Cnd.Cd} {v : V}, CdH H c v → ∃ a k els, v = .ref a ∧ H a = some (.tup (.str k :: els)) ∧
    ((∃ n, c = .named n ∧ k = Str.ofString "named" ∧ els = [tx n]) ∨ (V.str k ≠ .str (Str.ofString "named") ∧ inV (.str k) kws3 = false ∧ raw c = []) ∨
      (V.str k ≠ .str (Str.ofString "named") ∧ inV (.str k) kws3 = true ∧ ∃ ds, CsV H ds els ∧ raw c = ds.flatMap raw ∧ csz ds < Cnd.size c ∧ 0 < els.length ∧ els.length ≤ 2))
  | .named n, _, ⟨a, e, h⟩ => ⟨a, _, _, e, h, .inl ⟨n, rfl, rfl, rfl⟩⟩
  | .mat p, _, ⟨a, e, h⟩ => ⟨a, _, _, e, h, .inr (.inl ⟨by decide +kernel, by decide +kernel, rfl⟩)⟩
  | .len r m, _, ⟨a, e, h⟩ => ⟨a, _, _, e, h, .inr (.inl ⟨by decide +kernel, by decide +kernel, rfl⟩)⟩
  | .tpl k _ _ x y, _, ⟨a, e, h⟩ => ⟨a, _, _, e, h, .inr (.inl (by
    match k with
    | 0 | 1 | 2 => exact ⟨by decide +kernel, by decide +kernel, rfl⟩
    | _ + 3 => exact ⟨(by decide +kernel : V.str (Str.ofString "less") ≠ .str (Str.ofString "named")), (by decide +kernel : inV (.str (Str.ofString "less")) kws3 = false), rfl⟩))⟩
  | .no c, _, ⟨a, x, e, h, i⟩ => ⟨a, _, _, e, h, .inr (.inr ⟨by decide +kernel, by decide +kernel, [c], ⟨i, True.intro⟩, (List.append_nil _).symm, Nat.lt_succ_self _, Nat.succ_pos _, Nat.le_succ _⟩)⟩
  | .two w c d, _, ⟨a, x, y, e, h, i, j⟩ => ⟨a, _, _, e, h, .inr (.inr ⟨by cases w <;> decide +kernel, by cases w <;> decide +kernel, [c, d], ⟨i, j, True.intro⟩, by show raw c ++ raw d = raw c ++ (raw d ++ []); rw [List.append_nil], by show Cnd.size c + (Cnd.size d + 0) < Cnd.size c + Cnd.size d + 1; omega, Nat.succ_pos _, Nat.le_refl _⟩)⟩
def spNms : Sp := fun vs H Q _ => ∃ (c : Cnd.Cd) (v : V), vs = [v] ∧ CdH H c v ∧ Cnd.size c ≤ 100000 ∧ ∀ H' p, Same H H' → H p = none → H' p = some (.lst ((nms c).map tx)) → Q (.ref p) H'
abbrev sNms : Stmt := topS 50
abbrev nmsN : List Str := ["condition", "names", "waiting", "now", "part"]
theorem scNms : FnScope nmsN ["condition"] (defScope sNms) := ⟨rfl, rfl, rfl, by decide +kernel, rfl, by decide +kernel, by decide +kernel⟩
theorem ok_nms {f : Addr} {fd : FuncData} (F : Fun K "condition_names" "condition_names" sNms f fd) (m_reversed : mg "reversed" = none) (m_list : mg "list" = none) :
    FnOk P w K mg base CX0 1 f fd ["condition"] spNms := by
  refine F.ok scNms (fun vs H Q E h => ?_) (fun cdv A outer s H vs Q E hr h => ?_)
  · obtain ⟨c, v, rfl, _⟩ := h
    rfl
  · obtain ⟨c0, v0, rfl, hv0, hsz, q⟩ := h
    have hu := hu_of hr
    refine ⟨_, (pss_cons (ps_set (i := 1) scNms.nd rfl (by first | exact .inl rfl | exact .inr rfl) pe_dnewK)
      (pss_cons (ps_set (i := 2) scNms.nd rfl (by first | exact .inl rfl | exact .inr rfl) (pe_lst (pa_cons (pv 0) pa_nil)))
      (pss_cons (ps_while PassesOwn.never (pt_truth (pv 2) (fun _ => rfl))
        (pss_cons (ps_set (i := 3) scNms.nd rfl (by first | exact .inl rfl | exact .inr rfl) (pe_bm0 PySem.F.plainAttrs_list PySem.F.slot_list_pop PySem.F.type_list_pop mt_pop (pv 2)))
      (pss_cons (ps_if (pt_cmpR op_eq (pe_ix (ixT (K := K) rfl) (pv 3) pe_int (fun _ _ => rfl)) pe_str (nomark _)) (pss_one (ps_dput hu (pv 1) (pe_ix (ixT (K := K) rfl) (pv 3) pe_int (fun _ _ => rfl)) pe_bl rfl)) pss_nil)
      (pss_one (ps_if (pt_cmpR op_in_seq (pe_ix (ixT (K := K) rfl) (pv 3) pe_int (fun _ _ => rfl)) (pe_tup (pa_cons pe_str (pa_cons pe_str (pa_cons pe_str pa_nil)))) (by rfl)) (pss_one (ps_for PassesOwn.never rfl (RT.pi_revA (by rfl) m_reversed (pe_slice sl_tup (pv 3) (po_some pe_int) po_none)) (pg_name (i := 4) scNms.nd rfl (by first | exact .inl rfl | exact .inr rfl))
        (pss_one (ps_expr (pe_bm PySem.F.plainAttrs_list PySem.F.slot_list_append PySem.F.type_list_append mt_append (pv 2) (pa_cons (pv 4) pa_nil)))))) pss_nil)))))
      (pss_one (ps_ret (pe_callTy (call_list_dK rfl) (by rfl) m_list (by decide +kernel) (pa_cons (pv 1) pa_nil))))))), ?_⟩
    refine fun D nD => ?_
    have sD := same_new (o := .dK []) nD
    have hD0 : upd H D (.dK []) D = some (.dK []) := upd_same
    generalize upd H D (.dK []) = HD at sD hD0 ⊢
    refine ⟨_, rfl, Nat.succ_le_of_lt (by decide), fun B nB => ?_⟩
    have sB := same_new (o := .lst [v0]) nB
    have nB0 := none_of sD nB
    have hBD : D ≠ B := fun e => by rw [e, nB] at hD0; cases hD0
    try dsimp only [gName, tSeq, tAsg, List.set_cons_zero, List.set_cons_succ]
    show tWhile _ _ _ [some v0, some (.ref D), some (.ref B), none, none] _
    refine ⟨fun m σ H' => ∃ (cs : List Cnd.Cd) (vs : List V) (acc : List (List Nat)) (v3 v4 : Option V), σ = [some v0, some (.ref D), some (.ref B), v3, v4] ∧ Same H H' ∧ H' D = some (.dK (nmV acc)) ∧ H' B = some (.lst vs.reverse) ∧ CsV H' cs vs ∧ (cs.flatMap raw).foldl addN acc = nms c0 ∧ acc.length + csz cs ≤ 100000 ∧ m = csz cs,
      ⟨_, [c0], [v0], [], none, none, rfl, sD.trans sB, sB _ _ hD0, upd_same, ⟨hv0.same (sD.trans sB), True.intro⟩, by show (raw c0 ++ []).foldl addN [] = _; rw [List.append_nil]; exact raw_all c0, by show 0 + (Cnd.size c0 + 0) ≤ _; omega, rfl⟩, ?_⟩
    rintro m σ H1 ⟨cs, vs, acc, v3, v4, rfl, s1, hD, hB, hC, hf, hz, rfl⟩
    refine ⟨_, rfl, !vs.reverse.isEmpty, .inl ⟨_, sqL hB, rfl⟩, ?_⟩
    match cs, vs, hC with
    | [], [], _ =>
      refine iteF ?_
      have hf : acc = nms c0 := hf
      subst hf
      refine ⟨_, rfl, D, _, rfl, hD, fun p np => ?_⟩
      have sp := same_new (o := .lst ((nmV (nms c0)).map fun kv => kV kv.1)) np
      refine q _ p (s1.trans sp) (none_of s1 np) ?_
      rw [upd_same, List.map_map]
      rfl
    | c :: cs, v :: vs, ⟨hc, hC⟩ =>
      rw [show (!(v :: vs).reverse.isEmpty) = true by rw [List.reverse_cons]; cases vs.reverse <;> rfl]
      refine iteT ?_
      rw [List.reverse_cons] at hB
      refine ⟨_, fun _ _ h => h, ?_⟩
      refine ⟨_, rfl, .inl ⟨rfl, _, sqL hB⟩, B, _, _, rfl, rfl, hB, get_last, ?_⟩
      rw [List.dropLast_concat]
      obtain ⟨H2, eH2⟩ : ∃ H2, H2 = upd H1 B (.lst vs.reverse) := ⟨_, rfl⟩
      rw [← eH2]
      have s2 : Same H H2 := by rw [eH2]; exact same_put s1 nB0
      have hB2 : H2 B = some (.lst vs.reverse) := by rw [eH2]; exact upd_same
      have hD2 : H2 D = some (.dK (nmV acc)) := by rw [eH2, upd_ne hBD]; exact hD
      have hC2 : CsV H2 cs vs := by rw [eH2]; exact hC.keep (tup_keep hB)
      have hc2 : CdH H2 c v := by rw [eH2]; exact hc.keep (tup_keep hB)
      clear hB hD hC hc eH2 s1
      have hsz0 : acc.length + (Cnd.size c + csz cs) ≤ 100000 := hz
      have hpos := Cnd.size_pos c
      have hcl := csz_len cs
      have hfl : (raw c ++ cs.flatMap raw).foldl addN acc = nms c0 := hf
      try dsimp only [gName, tSeq, tAsg, List.set_cons_zero, List.set_cons_succ]
      obtain ⟨a, k, els, rfl, ha, hk⟩ := kids hc2
      refine ⟨_, rfl, a, _, 0, _, rfl, rfl, sqT ha, atI_nat (j := 0) rfl, rfl, _, rfl, ?_⟩
      rcases hk with ⟨n, rfl, rfl, rfl⟩ | ⟨k1, k2, hr0⟩ | ⟨k1, k2, ds, hds, hr0, hlt, he0, he2⟩
      · rw [decide_eq_true rfl]
        refine iteT ?_
        refine ⟨_, rfl, _, rfl, a, _, 1, _, rfl, rfl, sqT ha, atI_nat (j := 1) rfl, D, _, rfl, DPut.k (k := Sum.inr (S n)) hD2 (by rw [List.length_map, sizeLine_eq]; omega), ?_⟩
        rw [put_nm]
        obtain ⟨H3, eH3⟩ : ∃ H3, H3 = upd H2 D (.dK (nmV (addN acc n))) := ⟨_, rfl⟩
        rw [← eH3]
        have s3 : Same H H3 := by rw [eH3]; exact same_put s2 nD
        have ha3 : H3 a = some (.tup [.str (Str.ofString "named"), tx n]) := by rw [eH3]; exact tup_keepD hD2 _ _ ha
        have hB3 : H3 B = some (.lst vs.reverse) := by rw [eH3, upd_ne (fun e => hBD e.symm)]; exact hB2
        have hC3 : CsV H3 cs vs := by rw [eH3]; exact hC2.keep (tup_keepD hD2)
        have hD3 : H3 D = some (.dK (nmV (addN acc n))) := by rw [eH3]; exact upd_same
        refine ⟨_, rfl, a, _, 0, _, rfl, rfl, sqT ha3, atI_nat (j := 0) rfl, (by show 3 ≤ sizeLine; decide), fun T nT => ⟨T, _, rfl, .inr (sqT upd_same), rfl, rfl, _, rfl, ?_⟩⟩
        have sT := same_new (o := .tup kws3) nT
        rw [show (if false = true then !inV (.str (Str.ofString "named")) kws3 else inV (.str (Str.ofString "named")) kws3) = false by decide +kernel]
        refine iteF ?_
        have hal := addN_len acc n
        exact ⟨_, by show csz cs < 1 + csz cs; omega, cs, vs, addN acc n, _, _, rfl, s3.trans sT, sT _ _ hD3, sT _ _ hB3, hC3.keep (fun a xs e => sT _ _ e), hfl, by have : acc.length + (1 + csz cs) ≤ 100000 := hsz0; omega, rfl⟩
      · rw [decide_eq_false k1]
        refine iteF ?_
        refine ⟨_, rfl, a, _, 0, _, rfl, rfl, sqT ha, atI_nat (j := 0) rfl, (by show 3 ≤ sizeLine; decide), fun T nT => ⟨T, _, rfl, .inr (sqT upd_same), rfl, rfl, _, rfl, ?_⟩⟩
        have sT := same_new (o := .tup kws3) nT
        rw [show (if false = true then !inV (.str k) kws3 else inV (.str k) kws3) = false from k2]
        refine iteF ?_
        rw [hr0] at hfl
        exact ⟨_, by show csz cs < Cnd.size c + csz cs; omega, cs, vs, acc, _, _, rfl, s2.trans sT, sT _ _ hD2, sT _ _ hB2, hC2.keep (fun a xs e => sT _ _ e), hfl, by omega, rfl⟩
      · rw [decide_eq_false k1]
        refine iteF ?_
        refine ⟨_, rfl, a, _, 0, _, rfl, rfl, sqT ha, atI_nat (j := 0) rfl, (by show 3 ≤ sizeLine; decide), fun T nT => ⟨T, _, rfl, .inr (sqT upd_same), rfl, rfl, _, rfl, ?_⟩⟩
        have sT := same_new (o := .tup kws3) nT
        rw [show (if false = true then !inV (.str k) kws3 else inV (.str k) kws3) = true from k2]
        refine iteT ?_
        have haT := sT _ _ ha
        have hDT := sT _ _ hD2
        have hBT := sT _ _ hB2
        have hCT := hC2.keep (fun a xs e => sT _ _ e)
        have hdT := hds.keep (fun a xs e => sT _ _ e)
        have s3 := s2.trans sT
        generalize upd H2 T _ = H3 at haT hDT hBT hCT hdT s3 ⊢
        refine ⟨_, rfl, _, rfl, a, _, rfl, sqT haT, ?_, fun U nU => ?_⟩
        · intro h
          have := h.1
          rw [show (some (1 : Int)) = some ((1 : Nat) : Int) from rfl, HT.sIx_nat, List.length_cons] at this
          omega
        rw [show cutV (V.str k :: els) (some 1) none = els from cut_tl]
        have sU := same_new (o := .tup els) nU
        have hU : upd H3 U (.tup els) U = some (.tup els) := upd_same
        have hDU := sU _ _ hDT
        have hBU := sU _ _ hBT
        have hCU := hCT.keep (fun a xs e => sU _ _ e)
        have hdU := hdT.keep (fun a xs e => sU _ _ e)
        have s4 := s3.trans sU
        generalize upd H3 U (.tup els) = H4 at hU hDU hBU hCU hdU s4 ⊢
        refine ⟨U, _, rfl, .inr ⟨sqT hU, ?_⟩⟩
        have nB4 := nB0
        have hUB : U ≠ B := fun e => by rw [e, hBU] at hU; cases hU
        refine for_it (walk_revT (K := K) (a := U) (xs := els)) (fun i σ H' => ∃ v4 : Option V, σ = [some v0, some (.ref D), some (.ref B), some (.ref a), v4] ∧ Same H H' ∧ H' D = some (.dK (nmV acc)) ∧ H' U = some (.tup els) ∧ H' B = some (.lst (vs.reverse ++ els.reverse.take i)) ∧ CsV H' cs vs ∧ CsV H' ds els)
          ⟨_, rfl, s4, hDU, hU, by rw [hBU, List.take_zero, List.append_nil], hCU, hdU⟩ (fun i σ H' _ h => by obtain ⟨_, _, _, _, h, _⟩ := h; exact sqT h) ?_ ?_
        · rintro i x σ H5 H6 hi ⟨v5, rfl, s5, hD5, hU5, hB5, hC5, hd5⟩ ⟨rfl, hx⟩
          have hvl : vs.length ≤ csz cs := by rw [← hC5.len]; exact csz_len cs
          have hxr : els.reverse[i]? = some x := by
            rw [List.getElem?_reverse hi]
            exact hx
          refine ⟨_, rfl, .inl ⟨rfl, _, sqL hB5⟩, _, rfl, B, _, _, rfl, rfl, hB5, by rw [List.length_append, List.length_reverse, List.length_take, sizeLine_eq]; omega, ?_⟩
          refine ⟨_, rfl, same_put s5 nB0, by rw [upd_ne hBD]; exact hD5, by rw [upd_ne hUB]; exact hU5, ?_, hC5.keep (tup_keep hB5), hd5.keep (tup_keep hB5)⟩
          rw [upd_same, List.take_add_one, hxr, List.append_assoc]
          rfl
        · rintro σ H5 ⟨v5, rfl, s5, hD5, hU5, hB5, hC5, hd5⟩
          rw [List.take_of_length_le (by rw [List.length_reverse]; exact Nat.le_refl _), ← List.reverse_append] at hB5
          have esz : csz (ds ++ cs) = csz ds + csz cs := by unfold csz; rw [List.map_append, List.sum_append]
          rw [hr0, ← List.flatMap_append] at hfl
          exact ⟨_, by show csz (ds ++ cs) < Cnd.size c + csz cs; omega, ds ++ cs, els ++ vs, acc, _, _, rfl, s5, hD5, hB5, hd5.app hC5, hfl, by omega, rfl⟩
end
end Own

namespace Own
open PySem PySem.Spec PyProof.Rows L2 SX RZ
section
variable {P : Program} {w : World} {K : PySem.W.Frag} {mg : Str → Option Value} {base : Heap}
theorem cut_tl2 {x y : V} {els : List V} : cutV (x :: y :: els) (some 2) none = els := by
  unfold cutV
  rw [show (some (2 : Int)) = some ((2 : Nat) : Int) from rfl, HT.sIx_nat, HT.sIx_none, List.length_cons, List.length_cons, Nat.min_eq_left (by omega)]
  show (List.drop 2 (x :: y :: els)).take (els.length + 1 + 1 - 2) = els
  rw [show els.length + 1 + 1 - 2 = els.length by omega]
  exact List.take_length
def spPo : Sp := fun vs H Q _ => ∃ (v : V) (ps : List V), vs = [v] ∧ PrtH H v ps ∧ ∀ H' p, Same H H' → H p = none → H' p = some (.tup ps) → Q (.ref p) H'
abbrev sPo : Stmt := topS 57
abbrev poN : List Str := ["program"]
theorem scPo : FnScope poN ["program"] (defScope sPo) := ⟨rfl, rfl, rfl, by decide +kernel, rfl, by decide +kernel, by decide +kernel⟩
theorem ok_po {f : Addr} {fd : FuncData} (F : Fun K "parts_of" "parts_of" sPo f fd) {AK : Addr} (gA : mg "ASKING_KINDS" = some (.ref AK)) (uA : ∀ H, SqT K H AK [.str (Str.ofString "if"), .str (Str.ofString "while")]) :
    FnOk P w K mg base CX0 1 f fd ["program"] spPo := by
  refine F.ok scPo (fun vs H Q E h => ?_) (fun cdv A outer s H vs Q E hr h => ?_)
  · obtain ⟨v, ps, rfl, _⟩ := h
    rfl
  · obtain ⟨v, ps, rfl, hp, q⟩ := h
    refine ⟨_, (pss_cons (ps_if (pt_cmpR op_eq (pe_ix (ixT (K := K) rfl) (pv 0) pe_int (fun _ _ => rfl)) pe_str (nomark _)) (pss_one (ps_ret (pe_slice sl_tup (pv 0) (po_some pe_int) po_none))) pss_nil)
      (pss_cons (ps_if (pt_cmpR op_in_seq (pe_ix (ixT (K := K) rfl) (pv 0) pe_int (fun _ _ => rfl)) (pe_glob (v := .ref AK) (by rfl) gA rfl) (by rfl)) (pss_one (ps_ret (pe_slice sl_tup (pv 0) (po_some pe_int) po_none))) pss_nil)
      (pss_one (ps_ret (pe_tup pa_nil))))), ?_⟩
    obtain ⟨a, kd, xs, rfl, ha, hx, hk⟩ := hp
    have sz : ∀ n : Nat, n ≤ 2000 → n ≤ sizeLine := fun n hn => by rw [sizeLine_eq]; omega
    refine ⟨_, rfl, a, _, 0, _, rfl, rfl, sqT ha, atI_nat (j := 0) rfl, rfl, _, rfl, ?_⟩
    rcases hk with ⟨rfl, rfl⟩ | hk
    · rw [decide_eq_true rfl]
      refine iteT ?_
      refine ⟨_, rfl, _, rfl, a, _, rfl, sqT ha, ?_, fun U nU => ?_⟩
      · intro h
        have := h.1
        rw [show (some (1 : Int)) = some ((1 : Nat) : Int) from rfl, HT.sIx_nat, List.length_cons] at this
        omega
      rw [cut_tl]
      exact q _ U (same_new nU) nU upd_same
    have ne : kd ≠ Str.ofString "block" := by
      rcases hk with ⟨h, _⟩ | ⟨h, _⟩
      · rcases h with rfl | rfl <;> decide +kernel
      · rcases h with rfl | rfl | rfl | rfl <;> decide +kernel
    rw [decide_eq_false (fun e => ne (V.str.inj e))]
    refine iteF ?_
    refine ⟨_, rfl, a, _, 0, _, rfl, rfl, sqT ha, atI_nat (j := 0) rfl, _, _, rfl, .inr (uA _), rfl, rfl, _, rfl, ?_⟩
    rcases hk with ⟨h, c, rfl⟩ | ⟨h, rfl⟩
    · rw [show (if false = true then !inV (.str kd) [.str (Str.ofString "if"), .str (Str.ofString "while")] else inV (.str kd) [.str (Str.ofString "if"), .str (Str.ofString "while")]) = true by rcases h with rfl | rfl <;> decide +kernel]
      refine iteT ?_
      refine ⟨_, rfl, _, rfl, a, _, rfl, sqT ha, ?_, fun U nU => ?_⟩
      · intro h
        have := h.1
        rw [show (some (2 : Int)) = some ((2 : Nat) : Int) from rfl, HT.sIx_nat, List.length_cons, List.length_cons] at this
        omega
      rw [cut_tl2]
      exact q _ U (same_new nU) nU upd_same
    · rw [show (if false = true then !inV (.str kd) [.str (Str.ofString "if"), .str (Str.ofString "while")] else inV (.str kd) [.str (Str.ofString "if"), .str (Str.ofString "while")]) = false by rcases h with rfl | rfl | rfl | rfl <;> decide +kernel]
      refine iteF ?_
      exact ⟨Nat.zero_le _, fun U nU => q _ U (same_new nU) nU upd_same⟩
end
end Own

namespace Own
open PySem PySem.Spec PyProof.Rows L2 SX RZ
section
variable {P : Program} {w : World} {K : PySem.W.Frag} {mg : Str → Option Value} {base : Heap}

/-! ### nodes_of: a generator -/
abbrev sNo : Stmt := topS 58
abbrev noN : List Str := ["program", "waiting", "now", "part"]
theorem scNo : L2.GScope noN ["program"] (defScope sNo) := ⟨rfl, rfl, rfl, by decide +kernel, rfl, by decide +kernel, by decide +kernel⟩
def spNd : SpT := fun vs H out => ∃ v, vs = [v] ∧ Nod H v out ∧ out.length ≤ 100000
theorem wake_at {H0 H : Hp} {B : Addr} : wakeH H0 H [B] B = H B := by unfold wakeH; rw [if_pos (List.mem_singleton.mpr rfl)]
theorem wake_same {H0 H : Hp} {B : Addr} (n : H0 B = none) : Same H0 (wakeH H0 H [B]) := fun b o e => by
  unfold wakeH
  rw [if_neg (fun z => by rw [List.mem_singleton.mp z, n] at e; cases e)]
  exact e
theorem paired_appN {α β : Type} {F : α → β → Prop} : ∀ {l : List α} {m : List β} {l2 : List α} {m2 : List β}, Paired F l m → Paired F l2 m2 → Paired F (l ++ l2) (m ++ m2)
  | _, _, _, _, .nil, h => h
  | _, _, _, _, .cons a t, h => .cons a (paired_appN t h)
theorem ok_no {f f1 : Addr} {fd fd1 : FuncData} (F : Fun K "nodes_of" "nodes_of" sNo f fd) (m_reversed : mg "reversed" = none) (c1 : Cl P w K mg base "parts_of" 1 ["program"] spPo f1 fd1) :
    GFn2 P w K mg base 2 f fd ["program"] ["waiting"] spNd := by
  obtain ⟨oc, od, kV, doc, pm, an, cdv, ct, osl, rfl, lk, hcd⟩ := F.ex
  refine gfn2_of lk hcd scNo (fun _ => rfl) (fun x hx => by rw [List.mem_singleton.mp hx]; decide +kernel) (fun vs H out h => ?_) fun A outer s H vs out a go hr G h => ?_
  · obtain ⟨v, rfl, _⟩ := h
    rfl
  · obtain ⟨v0, rfl, hn, hl⟩ := h
    have ow := owns_gcx (P := P) (w := w) (K := K) (mg := mg) (base := base) (N := noN) (qual := Str.ofString "nodes_of") (scope := defScope sNo) (f := f) (cd := cdv) (A := A) (outer := outer) (s := s) (H := H) (E := EN) (pn := [(a, go)])
    refine ⟨_, d2_cons (d2_plain fun _ => ps_set (i := 1) scNo.nd rfl (by first | exact .inl rfl | exact .inr rfl) (pe_lst (pa_cons (pv 0) pa_nil)))
      (d2_last (d2_while ow (fun s0 => pt_truthF (K := K) (X := rr _ s0) rfl (pv 1) (fun _ => rfl))
        (d2_cons (d2_plain fun s0 => ps_set (X := rr _ s0) (i := 2) scNo.nd rfl (by first | exact .inl rfl | exact .inr rfl) (pe_bm0F (K := K) rfl PySem.F.plainAttrs_list PySem.F.slot_list_pop PySem.F.type_list_pop mt_pop (pv 1)))
        (d2_cons (d2_yield (ws := fun σ _ => match σ.getD 1 none with | some (.ref w) => [w] | _ => []) G (fun _ => pv 2))
        (d2_last (d2_plain fun _ => ps_for ow rfl (pi_revF (K := K) rfl (by rfl) m_reversed (pe_cl c1 hr (by decide) (by rfl) (pa_cons (pv 2) pa_nil))) (pg_name (i := 3) scNo.nd rfl (by first | exact .inl rfl | exact .inr rfl))
          (pss_one (ps_expr (pe_bmF (K := K) rfl PySem.F.plainAttrs_list PySem.F.slot_list_append PySem.F.type_list_append mt_append (pv 1) (pa_cons (pv 3) pa_nil)))))))))), ?_⟩
    refine ⟨_, rfl, Nat.succ_le_of_lt (by decide), fun B nB => ?_⟩
    have sB := same_new (o := .lst [v0]) nB
    try dsimp only [gName, tSeq, tAsg, List.set_cons_zero, List.set_cons_succ]
    refine ⟨fun m k σ H' => ∃ (st : List V) (outs : List (List V)) (x2 x3 : Option V), σ = [some v0, some (.ref B), x2, x3] ∧ Same H H' ∧ H' B = some (.lst st.reverse) ∧ Paired (Nod H) st outs ∧ out.drop k = outs.flatten ∧ k ≤ out.length ∧ m = outs.flatten.length,
      ⟨_, [v0], [out], none, none, rfl, sB, upd_same, .cons hn .nil, by simp, Nat.zero_le _, rfl⟩, ?_⟩
    rintro m k σ H1 ⟨st, outs, x2, x3, rfl, s1, hB, hP, hd, hk, rfl⟩
    refine ⟨_, rfl, !st.reverse.isEmpty, .inl ⟨_, sqL hB, rfl⟩, ?_⟩
    have hlen : outs.flatten.length ≤ 100000 := by rw [← hd, List.length_drop]; omega
    cases hP with
    | nil =>
      refine iteF ?_
      rw [List.flatten_nil] at hd
      have : (out.drop k).length = 0 := by rw [hd]; rfl
      rw [List.length_drop] at this
      exact ⟨by omega, s1⟩
    | @cons v o st outs hv hP =>
      obtain ⟨ps, os, hp, hk2, rfl⟩ := hv.inv
      rw [show (!(v :: st).reverse.isEmpty) = true by rw [List.reverse_cons]; cases st.reverse <;> rfl]
      refine iteT ?_
      rw [List.reverse_cons] at hB
      refine ⟨_, fun _ _ _ h => h, ?_⟩
      refine ⟨_, rfl, .inl ⟨rfl, _, sqL hB⟩, B, _, _, rfl, rfl, hB, get_last, ?_⟩
      rw [List.dropLast_concat]
      obtain ⟨H2, eH2⟩ : ∃ H2, H2 = upd H1 B (.lst st.reverse) := ⟨_, rfl⟩
      rw [← eH2]
      have s2 : Same H H2 := by rw [eH2]; exact same_put s1 nB
      have hB2 : H2 B = some (.lst st.reverse) := by rw [eH2]; exact upd_same
      clear hB eH2 s1
      have hd1 : out.drop k = v :: (os.flatten ++ outs.flatten) := hd
      have hlt : k < out.length := by
        have := congrArg List.length hd1
        rw [List.length_drop, List.length_cons] at this
        omega
      have hov : out[k]? = some v := by
        have := congrArg (fun l => l[0]?) hd1
        simpa using this
      have hd2 : out.drop (k + 1) = os.flatten ++ outs.flatten := by rw [← List.drop_drop, hd1]; rfl
      refine ⟨by rw [sizeLine_eq]; omega, _, rfl, hov, s2, .cons ⟨1, rfl, rfl, (show (defScope sNo).names.lookup (Str.ofString "waiting") = some .local by decide +kernel), ⟨_, hB2⟩, nB⟩ .nil, ?_⟩
      suffices hh : ∀ HW, Same H HW → HW B = some (.lst st.reverse) → (tSame (tFor (RT.iRevA K (tCall spPo [] E0 (tCons (tVar 2) tNil))) (gName 3) (tDrop (tBM K "list" rAppend (tVar 1) (tCons (tVar 3) tNil))))) _ (k + 1) [some v0, some (.ref B), some v, x3] HW from hh (wakeH H H2 [B]) (wake_same nB) (by rw [wake_at]; exact hB2)
      intro HW sW hBW
      clear s2 hB2
      refine ⟨_, rfl, v, ps, rfl, hp.keep (fun a xs e => sW _ _ e), fun H3 p s3 np hps => ⟨p, _, rfl, .inr ⟨sqT hps, ?_⟩⟩⟩
      have hB3 := s3 _ _ hBW
      have s4 := sW.trans s3
      have hl2 : ps.length ≤ os.flatten.length := by
        clear hd hd1 hd2 hv hp hps hlen
        induction hk2 with
        | nil => exact Nat.le_refl _
        | cons e _ ih =>
          obtain ⟨_, _, _, _, rfl⟩ := e.inv
          rw [List.flatten_cons, List.length_append, List.length_cons, List.length_cons]
          omega
      have hl3 : st.length ≤ outs.flatten.length := by
        clear hd hd1 hd2 hv hp hps hlen hBW hB3
        induction hP with
        | nil => exact Nat.le_refl _
        | cons e _ ih =>
          obtain ⟨_, _, _, _, rfl⟩ := e.inv
          rw [List.flatten_cons, List.length_append, List.length_cons, List.length_cons]
          omega
      have hlen2 : os.flatten.length + outs.flatten.length ≤ 100000 := by
        have := congrArg List.length hd2
        rw [List.length_drop, List.length_append] at this
        omega
      have hpB : p ≠ B := fun e => by rw [e, hB3] at hps; cases hps
      refine for_it (walk_revT (K := K) (a := p) (xs := ps)) (fun i σ H' => ∃ v4 : Option V, σ = [some v0, some (.ref B), some v, v4] ∧ Same H H' ∧ H' p = some (.tup ps) ∧ H' B = some (.lst (st.reverse ++ ps.reverse.take i)))
        ⟨_, rfl, s4, hps, by rw [hB3, List.take_zero, List.append_nil]⟩ (fun i σ H' _ h => by obtain ⟨_, _, _, h, _⟩ := h; exact sqT h) ?_ ?_
      · rintro i x σ H5 H6 hi ⟨v5, rfl, s5, hp5, hB5⟩ ⟨rfl, hx⟩
        have hxr : ps.reverse[i]? = some x := by
          rw [List.getElem?_reverse hi]
          exact hx
        refine ⟨_, rfl, .inl ⟨rfl, _, sqL hB5⟩, _, rfl, B, _, _, rfl, rfl, hB5, by rw [List.length_append, List.length_reverse, List.length_take, sizeLine_eq]; omega, ?_⟩
        refine ⟨_, rfl, same_put s5 nB, by rw [upd_ne hpB]; exact hp5, ?_⟩
        rw [upd_same, List.take_add_one, hxr, List.append_assoc]
        rfl
      · rintro σ H5 ⟨v5, rfl, s5, hp5, hB5⟩
        rw [List.take_of_length_le (by rw [List.length_reverse]; exact Nat.le_refl _), ← List.reverse_append] at hB5
        refine ⟨(os.flatten ++ outs.flatten).length, ?_, ps ++ st, os ++ outs, _, _, rfl, s5, hB5, ?_, ?_, hlt, ?_⟩
        · show _ < ((v :: os.flatten) ++ outs.flatten).length
          rw [List.length_append, List.length_append, List.length_cons]; omega
        · exact paired_appN hk2 hP
        · rw [hd2, List.flatten_append]
        · rw [List.flatten_append]
end
end Own

namespace Own
open PySem PySem.Spec PyProof.Rows L2 SX RZ
section
variable {P : Program} {w : World} {K : PySem.W.Frag} {mg : Str → Option Value} {base : Heap}
def NodeN (H : Hp) (x : V) (ns : List (List Nat)) : Prop := ∃ a kd xs, x = .ref a ∧ H a = some (.tup (.str kd :: xs)) ∧
  ((kd = Str.ofString "call" ∧ ∃ n, xs = [tx n] ∧ ns = [n]) ∨ ((kd = Str.ofString "if" ∨ kd = Str.ofString "while") ∧ ∃ c y zs, xs = y :: zs ∧ CdH H c y ∧ Cnd.size c ≤ 100000 ∧ ns = nms c) ∨
   ((kd = Str.ofString "skip" ∨ kd = Str.ofString "fill" ∨ kd = Str.ofString "fail" ∨ kd = Str.ofString "block") ∧ ns = []))
theorem NodeN.keep {H H' : Hp} {x : V} {ns : List (List Nat)} (k : ∀ a xs, H a = some (.tup xs) → H' a = some (.tup xs)) (h : NodeN H x ns) : NodeN H' x ns := by
  obtain ⟨a, kd, xs, e, h1, h2⟩ := h
  refine ⟨a, kd, xs, e, k _ _ h1, ?_⟩
  rcases h2 with h2 | ⟨h2, c, y, zs, e1, h3, h4⟩ | h2
  · exact .inl h2
  · exact .inr (.inl ⟨h2, c, y, zs, e1, h3.keep k, h4⟩)
  · exact .inr (.inr h2)
def spPnm : Sp := fun vs H Q _ => ∃ (v : V) (out : List V) (nss : List (List (List Nat))), vs = [v] ∧ Nod H v out ∧ out.length ≤ 100000 ∧ Paired (NodeN H) out nss ∧ nss.flatten.length ≤ 100000 ∧
  ∀ H' p, Same H H' → H p = none → H' p = some (.lst ((nss.flatten.foldl addN []).map tx)) → Q (.ref p) H'
abbrev sPnm : Stmt := topS 59
abbrev pnmN : List Str := ["program", "names", "node", "name"]
theorem scPnm : FnScope pnmN ["program"] (defScope sPnm) := ⟨rfl, rfl, rfl, by decide +kernel, rfl, by decide +kernel, by decide +kernel⟩
theorem ok_pnm {f : Addr} {fd : FuncData} (F : Fun K "program_names" "program_names" sPnm f fd) {f1 : Addr} {fd1 : FuncData} (c1 : Cl P w K mg base "condition_names" 1 ["condition"] spNms f1 fd1) {fN : Addr} {fdN : FuncData} (GN : GFn2 P w K mg base 2 fN fdN ["program"] ["waiting"] spNd) (gN : mg "nodes_of" = some (.ref fN)) (kN : PySem.W.keepIn K (.ref fN) = true) (bN : Binds K fdN ["program"] []) (m_list : mg "list" = none) {AK : Addr} (gA : mg "ASKING_KINDS" = some (.ref AK)) (uA : ∀ H, SqT K H AK [.str (Str.ofString "if"), .str (Str.ofString "while")]) :
    FnOk P w K mg base CX0 6 f fd ["program"] spPnm := by
  refine F.ok scPnm (fun vs H Q E h => ?_) (fun cdv A outer s H vs Q E hr h => ?_)
  · obtain ⟨v, out, nss, rfl, _⟩ := h
    rfl
  · obtain ⟨v0, out, nss, rfl, hn, hl, hp, hz, q⟩ := h
    have hu := hu_of hr
    refine ⟨_, (pss_cons (ps_set (i := 1) scPnm.nd rfl (by first | exact .inl rfl | exact .inr rfl) pe_dnewK)
      (pss_cons (ps_forG PassesOwn.never (GF.never fun _ _ h => h) rfl (pgn2_call GN (hr.mono (by decide)) (by rfl) gN kN bN (pa_cons (pv 0) pa_nil)) (hr.mono (by decide)) (pg_name (i := 2) scPnm.nd rfl (by first | exact .inl rfl | exact .inr rfl))
        (pss_cons (ps_if (pt_cmpR op_eq (pe_ix (ixT (K := K) rfl) (pv 2) pe_int (fun _ _ => rfl)) pe_str (nomark _)) (pss_one (ps_dput hu (pv 1) (pe_ix (ixT (K := K) rfl) (pv 2) pe_int (fun _ _ => rfl)) pe_bl rfl)) pss_nil)
      (pss_one (ps_if (pt_cmpR op_in_seq (pe_ix (ixT (K := K) rfl) (pv 2) pe_int (fun _ _ => rfl)) (pe_glob (v := .ref AK) (by rfl) gA rfl) (by rfl)) (pss_one (ps_for PassesOwn.never rfl (pi_list (pe_cl c1 hr (by decide) (by rfl) (pa_cons (pe_ix (ixT (K := K) rfl) (pv 2) pe_int (fun _ _ => rfl)) pa_nil))) (pg_name (i := 3) scPnm.nd rfl (by first | exact .inl rfl | exact .inr rfl))
        (pss_one (ps_dput hu (pv 1) (pv 3) pe_bl rfl)))) pss_nil))))
      (pss_one (ps_ret (pe_callTy (call_list_dK rfl) (by rfl) m_list (by decide +kernel) (pa_cons (pv 1) pa_nil)))))), ?_⟩
    refine fun D nD => ?_
    have sD := same_new (o := .dK []) nD
    have hD0 : upd H D (.dK []) D = some (.dK []) := upd_same
    generalize upd H D (.dK []) = HD at sD hD0 ⊢
    try dsimp only [gName, tSeq, tAsg, List.set_cons_zero, List.set_cons_succ]
    have nn := hn.keep (H' := tupsOf HD) fun a xs e => tupsOf_get (sD _ _ e)
    have addl : ∀ (l : List (List Nat)) (acc : List (List Nat)), (l.foldl addN acc).length ≤ acc.length + l.length := by
      intro l
      induction l with
      | nil => intro acc; exact Nat.le_refl _
      | cons n l ih =>
        intro acc
        have h1 := ih (addN acc n)
        have h2 : (addN acc n).length ≤ acc.length + 1 := by
          unfold addN
          split
          · omega
          · rw [List.length_append]; exact Nat.le_refl _
        rw [List.foldl_cons, List.length_cons]
        omega
    have sz : ∀ k : Nat, k ≤ 100000 → k < sizeLine := fun k hk => by rw [sizeLine_eq]; omega
    have tl : ∀ i, (nss.take i).flatten.length ≤ 100000 := fun i => by
      refine Nat.le_trans ?_ hz
      have := congrArg (fun l => l.flatten.length) (List.take_append_drop i nss)
      rw [List.flatten_append, List.length_append] at this
      omega
    refine ⟨_, rfl, out, ⟨v0, rfl, nn, hl⟩, fun i σ H' => ∃ x2 x3, σ = [some v0, some (.ref D), x2, x3] ∧ Same H H' ∧ KeepT HD H' ∧ H' D = some (.dK (nmV ((nss.take i).flatten.foldl addN []))),
      ⟨none, none, rfl, sD, fun _ _ e => e, by rw [hD0]; rfl⟩, fun i σ H' h => (by obtain ⟨_, _, _, _, h, _⟩ := h; exact h), ?_, ?_⟩
    · rintro i x σ H1 hx ⟨x2, x3, rfl, s1, k1, hD1⟩
      obtain ⟨ns, hns⟩ : ∃ ns, nss[i]? = some ns := by
        have hlt := (List.getElem?_eq_some_iff.mp hx).1
        rw [hp.length] at hlt
        exact ⟨_, List.getElem?_eq_getElem hlt⟩
      have hN : NodeN H x ns := by
        have aux : ∀ {l : List V} {m : List (List (List Nat))} {i : Nat}, Paired (NodeN H) l m → l[i]? = some x → m[i]? = some ns → NodeN H x ns := by
          intro l m i p
          induction p generalizing i with
          | nil => intro h; cases h
          | cons e _ ih =>
            intro h1 h2
            cases i with
            | zero => cases h1; cases h2; exact e
            | succ i => exact ih h1 h2
        exact aux hp hx hns
      have hN1 := hN.keep fun a xs e => s1 _ _ e
      have et : (nss.take (i + 1)).flatten = (nss.take i).flatten ++ ns := by rw [List.take_add_one, hns, List.flatten_append]; simp
      have hacc := addl (nss.take i).flatten []
      have htl := tl (i + 1)
      rw [et, List.length_append] at htl
      generalize hA : (nss.take i).flatten.foldl addN [] = acc at hD1 hacc
      have hacc : acc.length ≤ (nss.take i).flatten.length := by rw [List.length_nil, Nat.zero_add] at hacc; exact hacc
      have fin : ∀ (H2 : Hp) (y : Option V), Same H H2 → KeepT HD H2 → H2 D = some (.dK (nmV (ns.foldl addN acc))) → ∀ Hd, Drp HD H2 Hd → ∃ x2 x3, [some v0, some (.ref D), some x, y] = [some v0, some (.ref D), x2, x3] ∧ Same H Hd ∧ KeepT HD Hd ∧ Hd D = some (.dK (nmV ((nss.take (i + 1)).flatten.foldl addN []))) := fun H2 y s2 k2 hD2 Hd dr => by
        refine ⟨_, _, rfl, fun b o e => dr.2 b o (s2 b o e) (.inl ⟨o, sD b o e⟩), fun b xs e => dr.2 b _ (k2 b xs e) (.inr trivial), ?_⟩
        rw [et, List.foldl_append, hA]
        exact dr.2 D _ hD2 (.inl ⟨_, hD0⟩)
      obtain ⟨a, kd, xs, rfl, ha, hk⟩ := hN1
      refine ⟨_, rfl, a, _, 0, _, rfl, rfl, sqT ha, atI_nat (j := 0) rfl, rfl, _, rfl, ?_⟩
      rcases hk with ⟨rfl, n, rfl, rfl⟩ | ⟨hk, c, y, zs, rfl, hc, hsc, rfl⟩ | ⟨hk, rfl⟩
      · rw [decide_eq_true rfl]
        refine iteT ?_
        refine ⟨_, rfl, _, rfl, a, _, 1, _, rfl, rfl, sqT ha, atI_nat (j := 1) rfl, D, _, rfl, DPut.k (k := Sum.inr (S n)) hD1 (by rw [List.length_map]; exact sz _ (by omega)), ?_⟩
        rw [put_nm]
        have aD : a ≠ D := fun e => by
          rw [e] at ha
          have z : some (HO.dK (nmV acc)) = some (.tup _) := hD1.symm.trans ha
          cases z
        have s2 : Same H (upd H1 D (.dK (nmV (addN acc n)))) := same_put s1 nD
        have k2 : KeepT HD (upd H1 D (.dK (nmV (addN acc n)))) := fun b xs e => tup_keepD hD1 _ _ (k1 b xs e)
        have ha2 : upd H1 D (.dK (nmV (addN acc n))) a = some (.tup [.str (Str.ofString "call"), tx n]) := by rw [upd_ne aD]; exact ha
        have hD2 : upd H1 D (.dK (nmV (addN acc n))) D = some (.dK (nmV (addN acc n))) := upd_same
        generalize upd H1 D (.dK (nmV (addN acc n))) = H2 at s2 k2 ha2 hD2 ⊢
        refine ⟨_, rfl, a, _, 0, _, rfl, rfl, sqT ha2, atI_nat (j := 0) rfl, _, _, rfl, .inr (uA _), rfl, rfl, _, rfl, ?_⟩
        rw [show (if false = true then !inV (.str (Str.ofString "call")) [.str (Str.ofString "if"), .str (Str.ofString "while")] else inV (.str (Str.ofString "call")) [.str (Str.ofString "if"), .str (Str.ofString "while")]) = false by decide +kernel]
        refine iteF ?_
        exact fin H2 x3 s2 k2 hD2
      · have nk : kd ≠ Str.ofString "call" := by rcases hk with rfl | rfl <;> decide +kernel
        rw [decide_eq_false (fun e => nk (V.str.inj e))]
        refine iteF ?_
        refine ⟨_, rfl, a, _, 0, _, rfl, rfl, sqT ha, atI_nat (j := 0) rfl, _, _, rfl, .inr (uA _), rfl, rfl, _, rfl, ?_⟩
        rw [show (if false = true then !inV (.str kd) [.str (Str.ofString "if"), .str (Str.ofString "while")] else inV (.str kd) [.str (Str.ofString "if"), .str (Str.ofString "while")]) = true by rcases hk with rfl | rfl <;> decide +kernel]
        refine iteT ?_
        refine ⟨_, rfl, a, _, 1, _, rfl, rfl, sqT ha, atI_nat (j := 1) rfl, c, y, rfl, hc, hsc, fun H2 p s2 np hp2 => ?_⟩
        refine ⟨_, rfl, ⟨_, sqL hp2⟩, ?_⟩
        have hD2 := s2 _ _ hD1
        have pD : p ≠ D := fun e => by rw [e, hD2] at hp2; cases hp2
        refine for_it (walk_list (K := K) (a := p) (xs := (nms c).map tx)) (fun j σ H' => ∃ y, σ = [some v0, some (.ref D), some (.ref a), y] ∧ Same H H' ∧ KeepT HD H' ∧ H' p = some (.lst ((nms c).map tx)) ∧ H' D = some (.dK (nmV (((nms c).take j).foldl addN acc))))
          ⟨_, rfl, s1.trans s2, fun b xs e => s2 _ _ (k1 b xs e), hp2, hD2⟩ (fun i σ H' _ h => by obtain ⟨_, _, _, _, h, _⟩ := h; exact sqL h) ?_ ?_
        · rintro j z σ H5 H6 hj ⟨y5, rfl, s5, k5, hp5, hD5⟩ ⟨rfl, hz5⟩
          rw [List.length_map] at hj
          have hz6 := hz5
          rw [List.getElem?_map, List.getElem?_eq_getElem hj] at hz6
          cases hz6
          have h1 := addl ((nms c).take j) acc
          rw [List.length_take] at h1
          refine ⟨_, rfl, _, rfl, D, _, rfl, DPut.k (k := Sum.inr (S _)) hD5 (by rw [List.length_map]; exact sz _ (by omega)), ?_⟩
          rw [put_nm]
          refine ⟨_, rfl, same_put s5 nD, fun b xs e => tup_keepD hD5 _ _ (k5 b xs e), by rw [upd_ne pD]; exact hp5, ?_⟩
          rw [upd_same, List.take_add_one, List.getElem?_eq_getElem hj, List.foldl_append]
          rfl
        · rintro σ H5 ⟨y5, rfl, s5, k5, hp5, hD5⟩
          rw [List.take_of_length_le (by rw [List.length_map]; exact Nat.le_refl _)] at hD5
          exact fin H5 y5 s5 k5 hD5
      · have nk : kd ≠ Str.ofString "call" := by rcases hk with rfl | rfl | rfl | rfl <;> decide +kernel
        rw [decide_eq_false (fun e => nk (V.str.inj e))]
        refine iteF ?_
        refine ⟨_, rfl, a, _, 0, _, rfl, rfl, sqT ha, atI_nat (j := 0) rfl, _, _, rfl, .inr (uA _), rfl, rfl, _, rfl, ?_⟩
        rw [show (if false = true then !inV (.str kd) [.str (Str.ofString "if"), .str (Str.ofString "while")] else inV (.str kd) [.str (Str.ofString "if"), .str (Str.ofString "while")]) = false by rcases hk with rfl | rfl | rfl | rfl <;> decide +kernel]
        refine iteF ?_
        exact fin H1 x3 s1 k1 hD1
    · rintro σ H1 ⟨x2, x3, rfl, s1, k1, hD1⟩
      rw [List.take_of_length_le (Nat.le_of_eq hp.length.symm)] at hD1
      refine ⟨_, rfl, D, _, rfl, hD1, fun p np => ?_⟩
      have sp := same_new (o := .lst ((nmV (nss.flatten.foldl addN [])).map fun kv => kV kv.1)) np
      refine q _ p (s1.trans sp) (none_of s1 np) ?_
      rw [upd_same, List.map_map]
      rfl
end
end Own

namespace Own
open PySem PySem.Spec PyProof.Rows L2 SX RZ
section
variable {P : Program} {w : World} {K : PySem.W.Frag} {mg : Str → Option Value} {base : Heap}
theorem netW_of {gs : List Nat} (hg : ∀ c ∈ gs, 97 ≤ c ∧ c ≤ 122) {x : Pt.X} (ok : Pt.Ok gs x) (hl : (Pt.tx x).length ≤ 1000) : NetW (Pt.netOf gs x) := by
  obtain ⟨h1, h2, h3, h4, h5, h6⟩ := Pt.net_ok hg ok
  exact ⟨h1, h2, by omega, fun l m => by have := h4 l m; omega, h5, h6⟩
def spPh : Sp := fun vs H Q _ => ∃ (gs : List Nat) (x : Pt.X) (ws : List Nat) (b : Bool), vs = [tx gs, tx (Pt.tx x), tx ws] ∧ Good gs ∧ Pt.Ok gs x ∧ (Pt.tx x).length ≤ 1000 ∧ ws.length ≤ 1000 ∧ (∀ c ∈ ws, c ∈ gs) ∧ (b = true ↔ Pt.Told ws x) ∧ ∀ H', Same H H' → Q (.bl b) H'
abbrev sPh : Stmt := topS 47
abbrev phN : List Str := ["letters", "pattern", "text", "net", "nodes", "letter"]
theorem scPh : FnScope phN ["letters", "pattern", "text"] (defScope sPh) := ⟨rfl, rfl, rfl, by decide +kernel, rfl, by decide +kernel, by decide +kernel⟩
theorem ok_ph {f : Addr} {fd : FuncData} (F : Fun K "pattern_holds" "pattern_holds" sPh f fd) {f1 : Addr} {fd1 : FuncData} (c1 : Cl P w K mg base "check_text" 1 ["letters", "text"] spCk f1 fd1) {CN : Addr} {f2 : Addr} {fd2 : FuncData} (c2 : Cl P w K mg base "pattern_net" 3 ["letters", "pattern"] (spPn CN) f2 fd2) {f3 : Addr} {fd3 : FuncData} (c3 : Cl P w K mg base "jumped" 1 ["net", "nodes"] (spJu CN) f3 fd3) {f4 : Addr} {fd4 : FuncData} (c4 : Cl P w K mg base "read_on" 2 ["net", "nodes", "letter"] (spRon CN) f4 fd4) (g0 : ∃ t, mg "FIRST_NODE" = some (.int 0 t)) (g1 : ∃ t, mg "LAST_NODE" = some (.int 1 t)) :
    FnOk P w K mg base CX0 4 f fd ["letters", "pattern", "text"] spPh := by
  refine F.ok scPh (fun vs H Q E h => ?_) (fun cdv A outer s H vs Q E hr h => ?_)
  · obtain ⟨gs, x, ws, b, rfl, _⟩ := h
    rfl
  · obtain ⟨gs, x, ws, b0, rfl, hg, ok, hl, hw, hm, hb, q⟩ := h
    obtain ⟨t0, g0⟩ := g0
    obtain ⟨t1, g1⟩ := g1
    refine ⟨_, (pss_cons (ps_expr (pe_cl c1 hr (by decide) (by rfl) (pa_cons (pv 0) (pa_cons (pv 2) pa_nil))))
      (pss_cons (ps_set (i := 3) scPh.nd rfl (by first | exact .inl rfl | exact .inr rfl) (pe_cl c2 hr (by decide) (by rfl) (pa_cons (pv 0) (pa_cons (pv 1) pa_nil))))
      (pss_cons (ps_set (i := 4) scPh.nd rfl (by first | exact .inl rfl | exact .inr rfl) (pe_cl c3 hr (by decide) (by rfl) (pa_cons (pv 3) (pa_cons (pe_lst (pa_cons (pe_glob (v := .int 0) (by rfl) g0 ⟨_, rfl⟩) pa_nil)) pa_nil))))
      (pss_cons (ps_for PassesOwn.never rfl (pi_str (pv 2)) (pg_name (i := 5) scPh.nd rfl (by first | exact .inl rfl | exact .inr rfl))
        (pss_one (ps_set (i := 4) scPh.nd rfl (by first | exact .inl rfl | exact .inr rfl) (pe_cl c4 hr (by decide) (by rfl) (pa_cons (pv 3) (pa_cons (pv 4) (pa_cons (pv 5) pa_nil)))))))
      (pss_one (ps_ret (pe_cmpR op_in_seq (pe_glob (v := .int 1) (by rfl) g1 ⟨_, rfl⟩) (pv 4) (by rfl)))))))), ?_⟩
    have hW := netW_of hg.az ok hl
    have hhi := hg.hi
    refine ⟨_, rfl, _, rfl, gs, ws, rfl, hm, fun H1 s1 => ?_⟩
    refine ⟨_, rfl, _, rfl, gs, x, rfl, hg.az, by omega, ok, hl, fun H2 n R J js s2 nn hN => ?_⟩
    try dsimp only [gName, tSeq, tAsg, List.set_cons_zero, List.set_cons_succ]
    refine ⟨_, rfl, Nat.succ_le_of_lt (by decide), fun B nB => ?_⟩
    have sB := same_new (o := .lst [V.int 0]) nB
    refine ⟨n, B, R, J, js, _, [0], rfl, hN.keep sB, hW, upd_same, by simp, fun t ht => by rw [List.mem_singleton.mp ht]; have := hW.two; omega, fun H3 u s3 hu3 => ?_⟩
    have s03 := ((s1.trans s2).trans sB).trans s3
    have hN3 := (hN.keep sB).keep s3
    try dsimp only [gName, tSeq, tAsg, List.set_cons_zero, List.set_cons_succ]
    have hsta : Pt.jmp (Pt.netOf gs x) (· ∈ [0]) = Pt.sta (Pt.netOf gs x) := by
      unfold Pt.sta
      rw [Pt.jmp_congr (S := (· ∈ [0])) (S' := fun m => m = 0) fun m => by simp]
    rw [hsta] at hu3
    have hix : ∀ a ∈ ws.map gs.idxOf, a < gs.length := fun a ha => by
      obtain ⟨c, hc, rfl⟩ := List.mem_map.mp ha
      exact List.idxOf_lt_length_of_mem (hm c hc)
    have fold_in : ∀ (v : List Nat) (l : List Nat), l ∈ Pt.rooms (Pt.netOf gs x) → v.foldl (Pt.nx (Pt.netOf gs x) gs) l ∈ Pt.rooms (Pt.netOf gs x) := by
      intro v
      induction v with
      | nil => intro l h; exact h
      | cons a v ih => intro l _; exact ih _ Pt.rooms_in
    have fold_of : ∀ v : List Nat, (v.foldl (Pt.nx (Pt.netOf gs x) gs) (Pt.sta (Pt.netOf gs x))) ∈ Pt.rooms (Pt.netOf gs x) := fun v => fold_in v _ Pt.rooms_in
    refine ⟨_, rfl, S ws, rfl, ?_⟩
    refine for_it (walk_str (z := S ws)) (fun i σ H' => ∃ (b : Addr) (y : Option V), σ = [some (tx gs), some (tx (Pt.tx x)), some (tx ws), some (.ref n), some (.ref b), y] ∧ Same H3 H' ∧ H' b = some (.tup (ivs (((ws.take i).map gs.idxOf).foldl (Pt.nx (Pt.netOf gs x) gs) (Pt.sta (Pt.netOf gs x))))))
      ⟨u, none, rfl, Same.refl _, hu3⟩ (fun _ _ _ _ _ => True.intro) ?_ ?_
    · rintro i y σ H4 H5 hi ⟨b, z, rfl, s4, hb4⟩ ⟨rfl, c, hc, rfl⟩
      have hi : i < ws.length := by rw [← S_len ws]; exact hi
      have hc : ws[i]? = some c := by simpa [S] using hc
      have hcm := hm c (List.mem_of_getElem? hc)
      have hal : gs.idxOf c < gs.length := List.idxOf_lt_length_of_mem hcm
      have hga : gs.getD (gs.idxOf c) 0 = c := by
        rw [List.getD_eq_getElem?_getD, get_idx hcm]
        rfl
      obtain ⟨r1, r2, r3⟩ := Pt.rooms_of (fold_of ((ws.take i).map gs.idxOf))
      refine ⟨_, rfl, _, rfl, _, rfl, n, b, R, J, js, _, _, gs, gs.idxOf c, by rw [hga]; rfl, hal, hN3.keep s4, hW, hb4, r1, r3, fun H6 b' s6 hb6 => ?_⟩
      refine ⟨b', _, rfl, s4.trans s6, ?_⟩
      rw [hb6, List.take_add_one, hc, List.map_append, List.foldl_append]
      rfl
    · rintro σ H4 ⟨b, z, rfl, s4, hb4⟩
      rw [List.take_of_length_le (by rw [← S_len ws]; exact Nat.le_refl _)] at hb4
      have e1 : (ws.map gs.idxOf).map (fun a => gs.getD a 0) = ws := by
        rw [List.map_map]
        conv => rhs; rw [← List.map_id ws]
        refine List.map_congr_left fun c hc => ?_
        show gs.getD (gs.idxOf c) 0 = c
        rw [List.getD_eq_getElem?_getD, get_idx (hm c hc)]
        rfl
      have ft := Pt.fold_told hW.two hix
      rw [e1] at ft
      refine ⟨_, rfl, b, _, rfl, .inr (sqT hb4), rfl, flat_ivs _, ?_⟩
      have e := inV_ivs 1 ((ws.map gs.idxOf).foldl (Pt.nx (Pt.netOf gs x) gs) (Pt.sta (Pt.netOf gs x)))
      rw [show (V.int 1) = iv 1 from rfl, show (if false = true then !inV (iv 1) _ else inV (iv 1) _) = _ from e]
      have : decide (1 ∈ (ws.map gs.idxOf).foldl (Pt.nx (Pt.netOf gs x) gs) (Pt.sta (Pt.netOf gs x))) = b0 := by
        rw [Bool.eq_iff_iff, decide_eq_true_iff, ft, hb]
      rw [this]
      exact q _ (s03.trans s4)
end
end Own

namespace Own
open PySem PySem.Spec PyProof.Rows L2 SX RZ
section
variable {P : Program} {w : World} {K : PySem.W.Frag} {mg : Str → Option Value} {base : Heap}
def spSh : Sp := fun vs H Q _ => ∃ (gs : List Nat) (c : Cnd.Cd) (v : V) (ws : List Nat), vs = [tx gs, v, tx ws] ∧ Good gs ∧ CdH H c v ∧ OkR gs c ∧ ws.length ≤ 400 ∧ (∀ c ∈ ws, c ∈ gs) ∧ ∀ H', Same H H' → Q (.bl (ansC gs ws c)) H'
abbrev sSh : Stmt := topS 52
abbrev shN : List Str := ["letters", "condition", "text", "kind", "one", "other"]
theorem scSh : FnScope shN ["letters", "condition", "text"] (defScope sSh) := ⟨rfl, rfl, rfl, by decide +kernel, rfl, by decide +kernel, by decide +kernel⟩
theorem ok_sh {f : Addr} {fd : FuncData} (F : Fun K "simple_holds" "simple_holds" sSh f fd) (m_len : mg "len" = none) {f1 : Addr} {fd1 : FuncData} (c1 : Cl P w K mg base "pattern_holds" 4 ["letters", "pattern", "text"] spPh f1 fd1) {CT fI fM : Addr} {fdI fdM : FuncData} (T : TmC K CT) (M : Mk K CT fI) (gC : mg "Template" = some (.ref CT)) (GI : FnOk P w K mg base CX0 4 fI fdI ["self", "letters", "text"] (spTi CT)) (bI : Binds K fdI ["self", "letters", "text"] []) (mM : Meth K CT "mirrored" fM) (GM : FnOk P w K mg base CX0 7 fM fdM ["self"] (spMi CT)) (bM : Binds K fdM ["self"] []) {f2 : Addr} {fd2 : FuncData} (c2 : Cl P w K mg base "compared" 6 ["one", "other", "text"] (spCm CT) f2 fd2) {HW : Addr} (gH : mg "HOLDING_WORDS" = some (.ref HW)) (kH : ∀ k, k ≤ 3 → ∃ a, KDct K w HW (kwS k) (.ref a) ∧ ∀ H, SqT K H a ((holdW k).map V.str)) :
    FnOk P w K mg base CX0 8 f fd ["letters", "condition", "text"] spSh := by
  refine F.ok scSh (fun vs H Q E h => ?_) (fun cdv A outer s H vs Q E hr h => ?_)
  · obtain ⟨gs, c, v, ws, rfl, _⟩ := h
    rfl
  · obtain ⟨gs, c, v, ws, rfl, hg, hv, ok, hw, hm, q⟩ := h
    refine ⟨_, (pss_cons (ps_set (i := 3) scSh.nd rfl (by first | exact .inl rfl | exact .inr rfl) (pe_ix (ixT (K := K) rfl) (pv 1) pe_int (fun _ _ => rfl)))
      (pss_cons (ps_if (pt_cmpR op_eq (pv 3) pe_str (nomark _)) (pss_one (ps_ret (pe_cl c1 hr (by decide) (by rfl) (pa_cons (pv 0) (pa_cons (pe_ix (ixT (K := K) rfl) (pv 1) pe_int (fun _ _ => rfl)) (pa_cons (pv 2) pa_nil)))))) pss_nil)
      (pss_cons (ps_if (pt_cmpR op_eq (pv 3) pe_str (nomark _)) (pss_one (ps_ret (pe_cmpR op_eq (pe_op op_mod (pe_callB call_len_str (by rfl) m_len PySem.boot_len (pa_cons (pv 2) pa_nil)) (pe_ix (ixT (K := K) rfl) (pv 1) pe_int (fun _ _ => rfl))) (pe_ix (ixT (K := K) rfl) (pv 1) pe_int (fun _ _ => rfl)) (nomark _)))) pss_nil)
      (pss_cons (ps_par (i := 4) (j := 5) (by rfl) scSh.nd rfl rfl (by decide) rfl rfl (pa_cons (pe_make M GI (hr.mono (by decide)) (by rfl) gC bI .nil pass0 (pa_cons (pv 0) (pa_cons (pe_ix (ixT (K := K) rfl) (pv 1) pe_int (fun _ _ => rfl)) pa_nil))) (pa_cons (pe_make M GI (hr.mono (by decide)) (by rfl) gC bI .nil pass0 (pa_cons (pv 0) (pa_cons (pe_ix (ixT (K := K) rfl) (pv 1) pe_int (fun _ _ => rfl)) pa_nil))) pa_nil)) (by rfl))
      (pss_cons (ps_if (pt_cmpR op_eq (pv 3) pe_str (nomark _)) (pss_one (ps_ret (pe_cmpR op_in_seq (pe_cl c2 hr (by decide) (by rfl) (pa_cons (pe_meth0 (pv 4) T.cls mM GM (hr.mono (by decide)) bM .nil pass0) (pa_cons (pe_meth0 (pv 5) T.cls mM GM (hr.mono (by decide)) bM .nil pass0) (pa_cons (pe_backS (pv 2)) pa_nil)))) (pe_ix ix_kdict (pe_glob (v := .ref HW) (by rfl) gH rfl) (pv 3) (fun _ _ => rfl)) (by rfl)))) pss_nil)
      (pss_one (ps_ret (pe_cmpR op_in_seq (pe_cl c2 hr (by decide) (by rfl) (pa_cons (pv 4) (pa_cons (pv 5) (pa_cons (pv 2) pa_nil)))) (pe_ix ix_kdict (pe_glob (v := .ref HW) (by rfl) gH rfl) (pv 3) (fun _ _ => rfl)) (by rfl))))))))), ?_⟩
    have lz : ∀ k : Nat, k ≤ 100100 → k ≤ sizeLine := fun k hk => by rw [sizeLine_eq]; omega
    cases ok with
    | @mat p hx hl =>
      obtain ⟨x1, x2⟩ := x_spec hx
      obtain ⟨a, rfl, ha⟩ := hv
      refine ⟨_, rfl, a, _, 0, _, rfl, rfl, sqT ha, atI_nat (j := 0) rfl, ?_⟩
      try dsimp only [gName, tSeq, tAsg, List.set_cons_zero, List.set_cons_succ]
      refine ⟨_, rfl, rfl, _, rfl, ?_⟩
      rw [decide_eq_true rfl]
      refine iteT ?_
      refine ⟨_, rfl, _, rfl, a, _, 1, _, rfl, rfl, sqT ha, atI_nat (j := 1) rfl, _, rfl, gs, xOf gs p, ws, ansC gs ws (.mat p), ?_, hg, x1, by rw [x2]; omega, by omega, hm, ?_, fun H' s' => q H' s'⟩
      · rw [x2]; rfl
      · simp only [ansC, decide_eq_true_eq]
    | @len r m h1 h2 =>
      obtain ⟨a, rfl, ha⟩ := hv
      refine ⟨_, rfl, a, _, 0, _, rfl, rfl, sqT ha, atI_nat (j := 0) rfl, ?_⟩
      try dsimp only [gName, tSeq, tAsg, List.set_cons_zero, List.set_cons_succ]
      refine ⟨_, rfl, rfl, _, rfl, ?_⟩
      rw [decide_eq_false (by decide +kernel)]
      refine iteF ?_
      refine ⟨_, rfl, rfl, _, rfl, ?_⟩
      rw [decide_eq_true rfl]
      refine iteT ?_
      refine ⟨_, rfl, S ws, rfl, by rw [S_len]; exact lz _ (by omega), _, rfl, a, _, 2, _, rfl, rfl, sqT ha, atI_nat (j := 2) rfl, _, _, rfl, rfl, by omega, _, rfl, a, _, 1, _, rfl, rfl, sqT ha, atI_nat (j := 1) rfl, rfl, ?_⟩
      have e : decide (V.int (((S ws).length : Int) % ((m : Nat) : Int)) = iv r) = ansC gs ws (.len r m) := by
        show _ = @decide (ws.length % m = r) _
        rw [S_len, Bool.eq_iff_iff, decide_eq_true_iff, decide_eq_true_iff]
        constructor
        · intro h
          have h := V.int.inj h
          omega
        · intro h
          rw [← h]
          rfl
      rw [show decide (V.int (((S ws).length : Int) % ((m : Nat) : Int)) = iv r) = _ from e]
      exact q _ (Same.refl _)
    | @tpl k a b x y hk h1 h2 =>
      obtain ⟨r1, l1, e1⟩ := its_spec h1
      obtain ⟨r2, l2, e2⟩ := its_spec h2
      obtain ⟨A, rfl, ha⟩ := hv
      refine ⟨_, rfl, A, _, 0, _, rfl, rfl, sqT ha, atI_nat (j := 0) rfl, ?_⟩
      try dsimp only [gName, tSeq, tAsg, List.set_cons_zero, List.set_cons_succ]
      refine ⟨_, rfl, rfl, _, rfl, ?_⟩
      have n1 : V.str (kwS k) ≠ .str (Str.ofString "match") := by
        match k with
        | 0 | 1 | 2 => decide +kernel
        | _ + 3 => exact (by decide +kernel : V.str (Str.ofString "less") ≠ .str (Str.ofString "match"))
      have n2 : V.str (kwS k) ≠ .str (Str.ofString "length") := by
        match k with
        | 0 | 1 | 2 => decide +kernel
        | _ + 3 => exact (by decide +kernel : V.str (Str.ofString "less") ≠ .str (Str.ofString "length"))
      rw [decide_eq_false n1]
      refine iteF ?_
      refine ⟨_, rfl, rfl, _, rfl, ?_⟩
      rw [decide_eq_false n2]
      refine iteF ?_
      obtain ⟨aW, hW, sW⟩ := kH k hk
      dsimp only [tNext, tSeq, tPar, tCons]
      refine tm_mk (gs := gs) (t := x) (its := itsOf gs 2 x) (fun kk hkk => ⟨_, rfl, _, rfl, A, _, 1, _, rfl, rfl, sqT ha, atI_nat (j := 1) rfl, hkk _ (Same.refl _)⟩) hg (by rw [← e1]; exact rTx_len hg r1 (by omega)) (by have := rd_r hg.lo r1; rw [e1] at this; exact this) fun H1 p1 s1 np1 tm1 => ?_
      have ha1 := s1 _ _ ha
      refine tm_mk (gs := gs) (t := y) (its := itsOf gs 2 y) (fun kk hkk => ⟨_, rfl, _, rfl, A, _, 2, _, rfl, rfl, sqT ha1, atI_nat (j := 2) rfl, hkk _ (Same.refl _)⟩) hg (by rw [← e2]; exact rTx_len hg r2 (by omega)) (by have := rd_r hg.lo r2; rw [e2] at this; exact this) fun H2 p2 s2 np2 tm2 => ?_
      have tm1 := tm1.same s2
      have s12 := s1.trans s2
      refine ⟨_, _, rfl, ?_⟩
      try dsimp only [gName, tSeq, tAsg, List.set_cons_zero, List.set_cons_succ]
      refine ⟨_, rfl, rfl, _, rfl, ?_⟩
      have b1 := fill_le hg r1 (xs := ws) (b := 2) (m := 400) l1 hw (by omega)
      have b2 := fill_le hg r2 (xs := ws) (b := 2) (m := 400) l2 hw (by omega)
      by_cases hk2 : k = 2
      · subst hk2
        rw [decide_eq_true (show V.str (kwS 2) = V.str (Str.ofString "ends") from rfl)]
        refine iteT ?_
        have hmr : ∀ c ∈ ws.reverse, c ∈ gs := fun c hc => hm c (List.mem_reverse.mp hc)
        have hwr : ws.reverse.length ≤ 400 := by rw [List.length_reverse]; exact hw
        have q1 : Row gs (itsOf gs 2 x).reverse := fun z hz => r1 z (List.mem_reverse.mp hz)
        have q2 : Row gs (itsOf gs 2 y).reverse := fun z hz => r2 z (List.mem_reverse.mp hz)
        have b3 := fill_le hg q1 (xs := ws.reverse) (b := 2) (m := 400) (by rw [List.length_reverse]; exact l1) hwr (by omega)
        have b4 := fill_le hg q2 (xs := ws.reverse) (b := 2) (m := 400) (by rw [List.length_reverse]; exact l2) hwr (by omega)
        obtain ⟨d1, _, a1, _⟩ := id tm1
        obtain ⟨d2, _, a2, _⟩ := id tm2
        refine ⟨_, rfl, p1, d1, _, rfl, a1, rfl, p1, gs, _, rfl, tm1, hg, r1, by omega, fun H3 m1 s3 nm1 tn1 => ?_⟩
        refine ⟨_, rfl, p2, d2, _, rfl, s3 _ _ a2, rfl, p2, gs, _, rfl, tm2.same s3, hg, r2, by omega, fun H4 m2 s4 nm2 tn2 => ?_⟩
        have er : V.str ⟨(S ws).cps.reverse⟩ = tx ws.reverse := by
          show V.str ⟨(ws.toArray).reverse⟩ = V.str ⟨ws.reverse.toArray⟩
          rw [List.reverse_toArray]
        refine ⟨_, rfl, S ws, rfl, by have := lz ws.length (by omega); simpa [S] using this, ?_⟩
        refine ⟨m1, m2, gs, ws.reverse, _, _, by rw [er]; rfl, ⟨tn1.same s4, tn2, hg, hg, q1, q2, by rw [List.length_reverse]; omega, by rw [List.length_reverse]; omega⟩, by omega, hmr, by omega, by omega, fun H5 s5 => ?_⟩
        refine ⟨_, rfl, HW, kwS 2, .ref aW, rfl, rfl, hW, _, _, rfl, .inr (sW _), rfl, flat_str _, ?_⟩
        have e : ansC gs ws (.tpl 2 a b x y) = inV (.str (cmpW gs (fillL gs (itsOf gs 2 x).reverse ws.reverse) (fillL gs (itsOf gs 2 y).reverse ws.reverse))) ((holdW 2).map V.str) := by
          rw [inV_str]
          unfold ansC
          rw [if_pos rfl, Bool.eq_iff_iff, decide_eq_true_iff]
          first | done | rw [decide_eq_true_iff] | exact Iff.rfl
        show Q (.bl (inV _ _)) H5
        rw [← e]
        exact q _ (((s12.trans s3).trans s4).trans s5)
      · have n3 : V.str (kwS k) ≠ .str (Str.ofString "ends") := by
          match k, hk2 with
          | 0, _ => decide +kernel
          | 1, _ => decide +kernel
          | 2, h => exact (h rfl).elim
          | _ + 3, _ => exact (by decide +kernel : V.str (Str.ofString "less") ≠ .str (Str.ofString "ends"))
        rw [decide_eq_false n3]
        refine iteF ?_
        refine ⟨_, rfl, _, rfl, _, rfl, p1, p2, gs, ws, _, _, rfl, ⟨tm1, tm2, hg, hg, r1, r2, by omega, by omega⟩, by omega, hm, by omega, by omega, fun H3 s3 => ?_⟩
        refine ⟨_, rfl, HW, kwS k, .ref aW, rfl, rfl, hW, _, _, rfl, .inr (sW _), rfl, flat_str _, ?_⟩
        have e : ansC gs ws (.tpl k a b x y) = inV (.str (cmpW gs (fillL gs (itsOf gs 2 x) ws) (fillL gs (itsOf gs 2 y) ws))) ((holdW k).map V.str) := by
          rw [inV_str]
          unfold ansC
          rw [if_neg hk2, Bool.eq_iff_iff, decide_eq_true_iff]
          first | done | rw [decide_eq_true_iff] | exact Iff.rfl
        show Q (.bl (inV _ _)) H3
        rw [← e]
        exact q _ (s12.trans s3)
end
end Own

namespace Own
open PySem PySem.Spec PyProof.Rows L2 SX RZ
section
variable {P : Program} {w : World} {K : PySem.W.Frag} {mg : Str → Option Value} {base : Heap}
def spCno : Sp := fun vs H Q _ => ∃ (c : Cnd.Cd) (v : V), vs = [v] ∧ CdH H c v ∧ nms c = [] ∧ Cnd.size c ≤ 100000 ∧ ∀ H', Same H H' → Q .non H'
abbrev sCn : Stmt := topS 51
abbrev cnN : List Str := ["condition", "names"]
theorem scCn : FnScope cnN ["condition"] (defScope sCn) := ⟨rfl, rfl, rfl, by decide +kernel, rfl, by decide +kernel, by decide +kernel⟩
theorem ok_cn {f : Addr} {fd : FuncData} (F : Fun K "check_no_names" "check_no_names" sCn f fd) {f1 : Addr} {fd1 : FuncData} (c1 : Cl P w K mg base "condition_names" 1 ["condition"] spNms f1 fd1) :
    FnOk P w K mg base CX0 2 f fd ["condition"] spCno := by
  refine F.ok scCn (fun vs H Q E h => ?_) (fun cdv A outer s H vs Q E hr h => ?_)
  · obtain ⟨c, v, rfl, _⟩ := h
    rfl
  · obtain ⟨c, v, rfl, hv, hn, hz, q⟩ := h
    refine ⟨_, (pss_cons (ps_set (i := 1) scCn.nd rfl (by first | exact .inl rfl | exact .inr rfl) (pe_cl c1 hr (by decide) (by rfl) (pa_cons (pv 0) pa_nil)))
      (pss_one (ps_if (pt_truth (pv 1) (fun _ => rfl)) pss_never pss_nil))), ?_⟩
    refine ⟨_, rfl, c, v, rfl, hv, hz, fun H1 p s1 np hp => ?_⟩
    rw [hn] at hp
    try dsimp only [gName, tSeq, tAsg, List.set_cons_zero, List.set_cons_succ]
    refine ⟨_, rfl, false, .inl ⟨[], sqL hp, rfl⟩, iteF ?_⟩
    exact q _ s1
end
end Own

namespace Own
open PySem PySem.Spec PyProof.Rows L2 SX RZ
section
variable {P : Program} {w : World} {K : PySem.W.Frag} {mg : Str → Option Value} {base : Heap}
abbrev sNh : Stmt := topS 53
abbrev nhN : List Str := ["letters", "condition", "text", "kind"]
theorem scNh : FnScope nhN ["letters", "condition", "text"] (defScope sNh) := ⟨rfl, rfl, rfl, by decide +kernel, rfl, by decide +kernel, by decide +kernel⟩
theorem ok_nh {f : Addr} {fd : FuncData} (F : Fun K "nameless_holds" "nameless_holds" sNh f fd) {f1 : Addr} {fd1 : FuncData} (c1 : Cl P w K mg base "simple_holds" 8 ["letters", "condition", "text"] spSh f1 fd1) :
    FnOk P w K mg base CX0 9 f fd ["letters", "condition", "text"] spSh := by
  refine F.ok scNh (fun vs H Q E h => ?_) (fun cdv A outer s H vs Q E hr h => ?_)
  · obtain ⟨gs, c, v, ws, rfl, _⟩ := h
    rfl
  · obtain ⟨gs, c, v, ws, rfl, hg, hv, ok, hw, hm, q⟩ := h
    refine ⟨_, (pss_cons (ps_set (i := 3) scNh.nd rfl (by first | exact .inl rfl | exact .inr rfl) (pe_ix (ixT (K := K) rfl) (pv 1) pe_int (fun _ _ => rfl)))
      (pss_cons (ps_if (pt_cmpR op_eq (pv 3) pe_str (nomark _)) (pss_one (ps_ret pe_nv)) pss_nil)
      (pss_cons (ps_if (pt_cmpR op_eq (pv 3) pe_str (nomark _)) (pss_one (ps_ret pe_nv)) pss_nil)
      (pss_cons (ps_if (pt_cmpR op_eq (pv 3) pe_str (nomark _)) (pss_one (ps_ret pe_nv)) pss_nil)
      (pss_one (ps_ret (pe_cl c1 hr (by decide) (by rfl) (pa_cons (pv 0) (pa_cons (pv 1) (pa_cons (pv 2) pa_nil)))))))))), ?_⟩
    obtain ⟨a, k, els, hav, ha, hne⟩ : ∃ a k els, v = .ref a ∧ H a = some (.tup (.str k :: els)) ∧ V.str k ≠ .str (Str.ofString "not") ∧ V.str k ≠ .str (Str.ofString "and") ∧ V.str k ≠ .str (Str.ofString "or") := by
      cases ok with
      | mat _ _ => obtain ⟨a, e, h⟩ := hv; exact ⟨a, _, _, e, h, by decide +kernel, by decide +kernel, by decide +kernel⟩
      | len _ _ => obtain ⟨a, e, h⟩ := hv; exact ⟨a, _, _, e, h, by decide +kernel, by decide +kernel, by decide +kernel⟩
      | @tpl k _ _ _ _ _ _ _ =>
        obtain ⟨a, e, h⟩ := hv
        refine ⟨a, _, _, e, h, ?_⟩
        match k with
        | 0 | 1 | 2 => exact ⟨by decide +kernel, by decide +kernel, by decide +kernel⟩
        | _ + 3 => exact ⟨(by decide +kernel : V.str (Str.ofString "less") ≠ .str (Str.ofString "not")), (by decide +kernel : V.str (Str.ofString "less") ≠ .str (Str.ofString "and")), (by decide +kernel : V.str (Str.ofString "less") ≠ .str (Str.ofString "or"))⟩
    subst hav
    refine ⟨_, rfl, a, _, 0, _, rfl, rfl, sqT ha, atI_nat (j := 0) rfl, ?_⟩
    try dsimp only [gName, tSeq, tAsg, List.set_cons_zero, List.set_cons_succ]
    refine ⟨_, rfl, rfl, _, rfl, ?_⟩
    rw [decide_eq_false hne.1]
    refine iteF ⟨_, rfl, rfl, _, rfl, ?_⟩
    rw [decide_eq_false hne.2.1]
    refine iteF ⟨_, rfl, rfl, _, rfl, ?_⟩
    rw [decide_eq_false hne.2.2]
    refine iteF ?_
    exact ⟨_, rfl, _, rfl, _, rfl, gs, c, _, ws, rfl, hg, hv, ok, hw, hm, q⟩
end
end Own

namespace Own
open PySem PySem.Spec PyProof.Rows L2 SX RZ
section
variable {P : Program} {w : World} {K : PySem.W.Frag} {mg : Str → Option Value} {base : Heap}
abbrev sCh : Stmt := topS 54
abbrev chN : List Str := ["letters", "condition", "text"]
theorem scCh : FnScope chN ["letters", "condition", "text"] (defScope sCh) := ⟨rfl, rfl, rfl, by decide +kernel, rfl, by decide +kernel, by decide +kernel⟩
theorem ok_ch {f : Addr} {fd : FuncData} (F : Fun K "condition_holds" "condition_holds" sCh f fd) {f1 : Addr} {fd1 : FuncData} (c1 : Cl P w K mg base "check_no_names" 2 ["condition"] spCno f1 fd1) {f2 : Addr} {fd2 : FuncData} (c2 : Cl P w K mg base "check_text" 1 ["letters", "text"] spCk f2 fd2) {f3 : Addr} {fd3 : FuncData} (c3 : Cl P w K mg base "nameless_holds" 9 ["letters", "condition", "text"] spSh f3 fd3) :
    FnOk P w K mg base CX0 10 f fd ["letters", "condition", "text"] spSh := by
  refine F.ok scCh (fun vs H Q E h => ?_) (fun cdv A outer s H vs Q E hr h => ?_)
  · obtain ⟨gs, c, v, ws, rfl, _⟩ := h
    rfl
  · obtain ⟨gs, c, v, ws, rfl, hg, hv, ok, hw, hm, q⟩ := h
    refine ⟨_, (pss_cons (ps_expr (pe_cl c1 hr (by decide) (by rfl) (pa_cons (pv 1) pa_nil)))
      (pss_cons (ps_expr (pe_cl c2 hr (by decide) (by rfl) (pa_cons (pv 0) (pa_cons (pv 2) pa_nil))))
      (pss_one (ps_ret (pe_cl c3 hr (by decide) (by rfl) (pa_cons (pv 0) (pa_cons (pv 1) (pa_cons (pv 2) pa_nil)))))))), ?_⟩
    have hn : nms c = [] ∧ Cnd.size c = 1 := by cases ok <;> exact ⟨rfl, rfl⟩
    refine ⟨_, rfl, c, v, rfl, hv, hn.1, by rw [hn.2]; omega, fun H1 s1 => ?_⟩
    refine ⟨_, rfl, _, rfl, gs, ws, rfl, hm, fun H2 s2 => ?_⟩
    exact ⟨_, rfl, _, rfl, _, rfl, gs, c, _, ws, rfl, hg, hv.same (s1.trans s2), ok, hw, hm, fun H3 s3 => q _ ((s1.trans s2).trans s3)⟩
end
end Own

namespace Own
open PySem PySem.Spec PyProof.Rows L2 SX RZ
section
variable {P : Program} {w : World} {K : PySem.W.Frag} {mg : Str → Option Value} {base : Heap}
def spNl2 : Sp := fun vs H Q _ => ∃ (v : V) (out : List V) (nss : List (List (List Nat))), vs = [v] ∧ Nod H v out ∧ out.length ≤ 100000 ∧ Paired (NodeN H) out nss ∧ nss.flatten = [] ∧ ∀ H', Same H H' → Q .non H'
abbrev sChn : Stmt := topS 60
abbrev chnN : List Str := ["program", "names"]
theorem scChn : FnScope chnN ["program"] (defScope sChn) := ⟨rfl, rfl, rfl, by decide +kernel, rfl, by decide +kernel, by decide +kernel⟩
theorem ok_chn {f : Addr} {fd : FuncData} (F : Fun K "check_nameless" "check_nameless" sChn f fd) {f1 : Addr} {fd1 : FuncData} (c1 : Cl P w K mg base "program_names" 6 ["program"] spPnm f1 fd1) :
    FnOk P w K mg base CX0 7 f fd ["program"] spNl2 := by
  refine F.ok scChn (fun vs H Q E h => ?_) (fun cdv A outer s H vs Q E hr h => ?_)
  · obtain ⟨v, out, nss, rfl, _⟩ := h
    rfl
  · obtain ⟨v, out, nss, rfl, hn, hl, hp, hz, q⟩ := h
    refine ⟨_, (pss_cons (ps_set (i := 1) scChn.nd rfl (by first | exact .inl rfl | exact .inr rfl) (pe_cl c1 hr (by decide) (by rfl) (pa_cons (pv 0) pa_nil)))
      (pss_one (ps_if (pt_truth (pv 1) (fun _ => rfl)) pss_never pss_nil))), ?_⟩
    refine ⟨_, rfl, v, out, nss, rfl, hn, hl, hp, by rw [hz]; exact Nat.zero_le _, fun H1 p s1 np hp1 => ?_⟩
    rw [hz] at hp1
    try dsimp only [gName, tSeq, tAsg, List.set_cons_zero, List.set_cons_succ]
    refine ⟨_, rfl, false, .inl ⟨[], sqL hp1, rfl⟩, iteF ?_⟩
    exact q _ s1
end
end Own

namespace Own
open PySem PySem.Spec PyProof.Rows L2 SX RZ
section
variable {P : Program} {w : World} {K : PySem.W.Frag} {mg : Str → Option Value} {base : Heap}
open Prg in
/-! ### a program's nodes; no names in it -/
def AllNo (H : Hp) (out : List V) : Prop := ∃ nss : List (List (List Nat)), Paired (NodeN H) out nss ∧ nss.flatten = []
theorem AllNo.cons {H : Hp} {v : V} {out : List V} (h : NodeN H v []) (k : AllNo H out) : AllNo H (v :: out) := let ⟨nss, a, b⟩ := k; ⟨[] :: nss, .cons h a, b⟩
theorem AllNo.app {H : Hp} {a b : List V} (h : AllNo H a) (k : AllNo H b) : AllNo H (a ++ b) := by
  obtain ⟨n1, h1, h2⟩ := h
  obtain ⟨n2, k1, k2⟩ := k
  exact ⟨n1 ++ n2, paired_appN h1 k1, by rw [List.flatten_append, h2, k2]; rfl⟩
open Prg in
/-- the nodes of some programs, one behind the other -/
def SeqN (H : Hp) (vs : List V) (n : Nat) : Prop := ∃ outs : List (List V), Paired (Nod H) vs outs ∧ AllNo H outs.flatten ∧ outs.flatten.length ≤ n ∧ vs.length ≤ n
open Prg in
theorem blk_nod {H : Hp} {ys : List V} {y : V} {n : Nat} (hb : Blk H ys y) (h : SeqN H ys n) (hn : n ≤ 900) : ∃ out, Nod H y out ∧ AllNo H out ∧ out.length ≤ n + 1 := by
  obtain ⟨outs, h1, h2, h3, h4⟩ := h
  rcases hb with rfl | ⟨hl, a, rfl, ha⟩
  · cases h1 with
    | cons e t =>
      cases t
      rw [List.flatten_cons, List.flatten_nil, List.append_nil] at h2 h3
      exact ⟨_, e, h2, by omega⟩
  · refine ⟨_, .mk ⟨a, _, ys, rfl, ha, by omega, .inl ⟨rfl, rfl⟩⟩ h1, .cons ⟨a, _, _, rfl, ha, .inr (.inr ⟨.inr (.inr (.inr rfl)), rfl⟩)⟩ h2, ?_⟩
    rw [List.length_cons]; omega
open Prg in
theorem seq_nod {gs : List Nat} {H : Hp} : ∀ {p : Pr} {vs : List V}, OkP gs p → SqH H p vs → Prg.size p ≤ 300 → SeqN H vs (3 * Prg.size p)
  | .nil, _, _, h, _ => by cases h; exact ⟨[], .nil, ⟨[], .nil, rfl⟩, Nat.le_refl _, Nat.le_refl _⟩
  | .leaf l r, _, ⟨ok, okr⟩, ⟨v, ws, e, h, hr⟩, hs => by
    subst e
    have hs : Prg.size r + 1 ≤ 300 := hs
    obtain ⟨outs, h1, h2, h3, h4⟩ := seq_nod okr hr (by omega)
    have hv : PrtH H v [] ∧ NodeN H v [] := by
      cases l with
      | skip => obtain ⟨a, e, h⟩ := h; exact ⟨⟨a, _, _, e, h, by decide, .inr (.inr ⟨.inl rfl, rfl⟩)⟩, a, _, _, e, h, .inr (.inr ⟨.inl rfl, rfl⟩)⟩
      | fill _ _ => obtain ⟨a, e, h⟩ := h; exact ⟨⟨a, _, _, e, h, by show 1 ≤ 1000; decide, .inr (.inr ⟨.inr (.inl rfl), rfl⟩)⟩, a, _, _, e, h, .inr (.inr ⟨.inr (.inl rfl), rfl⟩)⟩
      | fail _ => obtain ⟨a, e, h⟩ := h; exact ⟨⟨a, _, _, e, h, by show 1 ≤ 1000; decide, .inr (.inr ⟨.inr (.inr (.inl rfl)), rfl⟩)⟩, a, _, _, e, h, .inr (.inr ⟨.inr (.inr (.inl rfl)), rfl⟩)⟩
      | call _ => exact ok.elim
    refine ⟨[v] :: outs, .cons (.mk hv.1 .nil) h1, .cons hv.2 h2, ?_, ?_⟩
    · show _ ≤ 3 * (Prg.size r + 1)
      rw [List.flatten_cons, List.length_append, List.length_singleton]; omega
    · show _ ≤ 3 * (Prg.size r + 1)
      rw [List.length_cons]; omega
  | .whil c p r, _, ⟨okc, sp, okp, okr⟩, ⟨a, x, y, ys, ws, e, ha, hc, hp, hb, hr⟩, hs => by
    subst e
    have hs : Prg.size p + Prg.size r + 1 ≤ 300 := hs
    obtain ⟨outs, h1, h2, h3, h4⟩ := seq_nod okr hr (by omega)
    obtain ⟨o1, g1, g2, g3⟩ := blk_nod hb (seq_nod okp hp (by omega)) (by omega)
    have hn : nms c = [] ∧ Cnd.size c = 1 := by cases okc <;> exact ⟨rfl, rfl⟩
    refine ⟨(.ref a :: [o1].flatten) :: outs, .cons (.mk (ps := [y]) ⟨a, _, _, rfl, ha, by show 2 ≤ 1000; decide, .inr (.inl ⟨.inr rfl, x, rfl⟩)⟩ (.cons g1 .nil)) h1, ?_, ?_, ?_⟩
    · rw [List.flatten_cons, List.flatten_cons, List.flatten_nil, List.append_nil]
      exact AllNo.cons (out := o1 ++ outs.flatten) ⟨a, _, _, rfl, ha, .inr (.inl ⟨.inr rfl, c, x, [y], rfl, hc, by omega, hn.1.symm⟩)⟩ (g2.app h2)
    · show _ ≤ 3 * (Prg.size p + Prg.size r + 1)
      rw [List.flatten_cons, List.length_append, List.length_cons, List.flatten_cons, List.flatten_nil, List.append_nil]; omega
    · show _ ≤ 3 * (Prg.size p + Prg.size r + 1)
      rw [List.length_cons]; omega
  | .cond c p q r, _, ⟨okc, sp, sq, okp, okq, okr⟩, ⟨a, x, y, z, ys, zs, ws, e, ha, hc, hp, hb, hq, hd, hr⟩, hs => by
    subst e
    have hs : Prg.size p + Prg.size q + Prg.size r + 1 ≤ 300 := hs
    obtain ⟨outs, h1, h2, h3, h4⟩ := seq_nod okr hr (by omega)
    obtain ⟨o1, g1, g2, g3⟩ := blk_nod hb (seq_nod okp hp (by omega)) (by omega)
    obtain ⟨o2, k1, k2, k3⟩ := blk_nod hd (seq_nod okq hq (by omega)) (by omega)
    have hn : nms c = [] ∧ Cnd.size c = 1 := by cases okc <;> exact ⟨rfl, rfl⟩
    refine ⟨(.ref a :: [o1, o2].flatten) :: outs, .cons (.mk (ps := [y, z]) ⟨a, _, _, rfl, ha, by show 3 ≤ 1000; decide, .inr (.inl ⟨.inl rfl, x, rfl⟩)⟩ (.cons g1 (.cons k1 .nil))) h1, ?_, ?_, ?_⟩
    · rw [List.flatten_cons, List.flatten_cons, List.flatten_cons, List.flatten_nil, List.append_nil]
      exact AllNo.cons (out := (o1 ++ o2) ++ outs.flatten) ⟨a, _, _, rfl, ha, .inr (.inl ⟨.inl rfl, c, x, [y, z], rfl, hc, by omega, hn.1.symm⟩)⟩ ((g2.app k2).app h2)
    · show _ ≤ 3 * (Prg.size p + Prg.size q + Prg.size r + 1)
      rw [List.flatten_cons, List.length_append, List.length_cons, List.flatten_cons, List.flatten_cons, List.flatten_nil, List.append_nil, List.length_append]; omega
    · show _ ≤ 3 * (Prg.size p + Prg.size q + Prg.size r + 1)
      rw [List.length_cons]; omega
/-! ### the states of a run -/
structure RS where
  w : List Nat
  ks : List Prg.Pr
  f : Option (List Nat)
noncomputable def fillX (gs x w : List Nat) : List Nat := fillL gs (itsOf gs 3 x) w
open Prg in
noncomputable def stepS (gs : List Nat) : RS → RS
  | ⟨w, p :: ks, f⟩ => match elems p ++ ks with
    | .leaf (.fill _ x) _ :: r => ⟨fillX gs x w, r, none⟩
    | .leaf (.fail n) _ :: _ => ⟨w, [], some n⟩
    | .whil c q _ :: r => if ansC gs w c = true then ⟨w, q :: .whil c q .nil :: r, none⟩ else ⟨w, r, none⟩
    | .cond c q1 q2 _ :: r => ⟨w, (if ansC gs w c = true then q1 else q2) :: r, none⟩
    | _ :: r => ⟨w, r, none⟩
    | [] => ⟨w, [], none⟩
  | s => s
/-- what is left to do: pairs of a program and of what is left behind it -/
def LeftH (H : Hp) : List Prg.Pr → V → Prop
  | [], l => l = .non
  | p :: ks, l => ∃ a v l', l = .ref a ∧ H a = some (.tup [v, l']) ∧ PgH H p v ∧ LeftH H ks l'
def wordV : Option (List Nat) → V
  | none => .non
  | some n => tx n
def NowH (H : Hp) (s : RS) (v : V) : Prop := ∃ a l, v = .ref a ∧ H a = some (.tup [tx s.w, l, wordV s.f]) ∧ LeftH H s.ks l
theorem LeftH.keep {H H' : Hp} (k : ∀ a xs, H a = some (.tup xs) → H' a = some (.tup xs)) : ∀ {ks : List Prg.Pr} {l : V}, LeftH H ks l → LeftH H' ks l
  | [], _, h => h
  | _ :: _, _, ⟨a, v, l', e, h, hp, hr⟩ => ⟨a, v, l', e, k _ _ h, hp.keep k, hr.keep k⟩
theorem NowH.keep {H H' : Hp} (k : ∀ a xs, H a = some (.tup xs) → H' a = some (.tup xs)) {s : RS} {v : V} (h : NowH H s v) : NowH H' s v := let ⟨a, l, e, h1, h2⟩ := h; ⟨a, l, e, k _ _ h1, h2.keep k⟩
def OkK (gs : List Nat) (ks : List Prg.Pr) : Prop := ∀ p ∈ ks, OkP gs p ∧ Prg.some? p = true ∧ Prg.size p ≤ 300
end
end Own

namespace Own
open PySem PySem.Spec PyProof.Rows L2 SX RZ
section
variable {P : Program} {w : World} {K : PySem.W.Frag} {mg : Str → Option Value} {base : Heap}
def spUnf : Sp := fun vs H Q _ => ∃ (p : Prg.Pr) (ks : List Prg.Pr) (l : V), vs = [l] ∧ LeftH H (p :: ks) l ∧ Prg.some? p = true ∧ Prg.size p ≤ 300 ∧ ∀ H' T e r v l', Same H H' → H' T = some (.tup [v, l']) → elems p ++ ks = e :: r → SqH H' e [v] → LeftH H' r l' → Q (.ref T) H'
abbrev sUnf : Stmt := topS 63
abbrev unfN : List Str := ["left", "program", "rest", "part"]
theorem scUnf : FnScope unfN ["left"] (defScope sUnf) := ⟨rfl, rfl, rfl, by decide +kernel, rfl, by decide +kernel, by decide +kernel⟩
theorem ok_unf {f : Addr} {fd : FuncData} (m_reversed : mg "reversed" = none) (F : Fun K "unfolded" "unfolded" sUnf f fd) :
    FnOk P w K mg base CX0 2 f fd ["left"] spUnf := by
  refine F.ok scUnf (fun vs H Q E h => ?_) (fun cdv A outer s H vs Q E hr h => ?_)
  · obtain ⟨p, ks, l, rfl, _⟩ := h
    rfl
  · obtain ⟨p, ks, l, rfl, hl, hs, hz, q⟩ := h
    refine ⟨_, (pss_cons (ps_asg (pv 0) (pg_tup rfl (pgs_cons (pg_name (i := 1) scUnf.nd rfl (by first | exact .inl rfl | exact .inr rfl)) (pgs_cons (pg_name (i := 2) scUnf.nd rfl (by first | exact .inl rfl | exact .inr rfl)) pgs_nil))))
      (pss_cons (ps_while PassesOwn.never (pt_cmpR op_eq (pe_ix (ixT (K := K) rfl) (pv 1) pe_int (fun _ _ => rfl)) pe_str (nomark _))
        (pss_cons (ps_for PassesOwn.never rfl (RT.pi_revA (by rfl) m_reversed (pe_slice sl_tup (pv 1) (po_some pe_int) po_none)) (pg_name (i := 3) scUnf.nd rfl (by first | exact .inl rfl | exact .inr rfl))
        (pss_one (ps_set (i := 2) scUnf.nd rfl (by first | exact .inl rfl | exact .inr rfl) (pe_tup (pa_cons (pv 3) (pa_cons (pv 2) pa_nil))))))
      (pss_one (ps_asg (pv 2) (pg_tup rfl (pgs_cons (pg_name (i := 1) scUnf.nd rfl (by first | exact .inl rfl | exact .inr rfl)) (pgs_cons (pg_name (i := 2) scUnf.nd rfl (by first | exact .inl rfl | exact .inr rfl)) pgs_nil)))))))
      (pss_one (ps_ret (pe_tup (pa_cons (pv 1) (pa_cons (pv 2) pa_nil))))))), ?_⟩
    obtain ⟨a, v, l1, rfl, ha, ⟨vs, hq, hb⟩, hk⟩ := hl
    have hel := sq_elems hq
    have hlen : (elems p).length ≤ 300 := by
      have : ∀ p : Prg.Pr, (elems p).length ≤ Prg.size p := by
        intro p
        induction p with
        | nil => exact Nat.le_refl _
        | leaf l r ih => exact Nat.succ_le_succ ih
        | whil c p r _ ih => show (elems r).length + 1 ≤ Prg.size p + Prg.size r + 1; omega
        | cond c p q r _ _ ih => show (elems r).length + 1 ≤ Prg.size p + Prg.size q + Prg.size r + 1; omega
      exact Nat.le_trans (this p) hz
    have hvl : vs.length ≤ 300 := by rw [← hel.length]; exact hlen
    have sz : ∀ n : Nat, n ≤ 2000 → n ≤ sizeLine := fun n hn => by rw [sizeLine_eq]; omega
    have fin : ∀ (H1 : Hp) (e : Prg.Pr) (r : List Prg.Pr) (v : V) (l' : V) (x3 : Option V), Same H H1 → elems p ++ ks = e :: r → SqH H1 e [v] → LeftH H1 r l' →
        tRet (tTup (tCons (tVar 1) (tCons (tVar 2) tNil))) { nx := fun x H' => Q V.non H', rt := Q } [some (.ref a), some v, some l', x3] H1 := fun H1 e r v l' x3 s1 ee he hr => by
      refine ⟨_, rfl, _, rfl, by show 2 ≤ sizeLine; exact sz _ (by omega), fun T nT => ?_⟩
      have sT := same_new (o := .tup [v, l']) nT
      exact q _ T e r v l' (s1.trans sT) upd_same ee (he.keep fun a xs e => sT _ _ e) (hr.keep fun a xs e => sT _ _ e)
    have hd : ∀ (H1 : Hp) (e : Prg.Pr) (v : V), SqH H1 e [v] → ∃ b kd xs, v = .ref b ∧ H1 b = some (.tup (.str kd :: xs)) ∧ V.str kd ≠ .str (Str.ofString "block") := fun H1 e v h => by
      cases e with
      | nil => cases h
      | leaf l r =>
        obtain ⟨v', ws, e, h, _⟩ := h
        cases e
        cases l with
        | skip => obtain ⟨b, e, h⟩ := h; exact ⟨b, _, _, e, h, by decide +kernel⟩
        | fill _ _ => obtain ⟨b, e, h⟩ := h; exact ⟨b, _, _, e, h, by decide +kernel⟩
        | fail _ => obtain ⟨b, e, h⟩ := h; exact ⟨b, _, _, e, h, by decide +kernel⟩
        | call _ => obtain ⟨b, e, h⟩ := h; exact ⟨b, _, _, e, h, by decide +kernel⟩
      | whil c p r => obtain ⟨b, x, y, ys, ws, e, h, _⟩ := h; cases e; exact ⟨b, _, _, rfl, h, by decide +kernel⟩
      | cond c p q r => obtain ⟨b, x, y, z, ys, zs, ws, e, h, _⟩ := h; cases e; exact ⟨b, _, _, rfl, h, by decide +kernel⟩
    refine ⟨_, rfl, a, _, rfl, sqT ha, rfl, _, _, rfl, _, _, rfl, rfl, ?_⟩
    try dsimp only [gName, tSeq, tAsg, List.set_cons_zero, List.set_cons_succ]
    show tWhile _ _ _ [some (.ref a), some v, some l1, none] _
    refine ⟨fun m σ H1 => (m = 1 ∧ H1 = H ∧ σ = [some (.ref a), some v, some l1, none] ∧ ∃ b, v = .ref b ∧ H b = some (.tup (.str (Str.ofString "block") :: vs)) ∧ 2 ≤ vs.length) ∨
      (m = 0 ∧ ∃ e r v' l' x3, σ = [some (.ref a), some v', some l', x3] ∧ Same H H1 ∧ elems p ++ ks = e :: r ∧ SqH H1 e [v'] ∧ LeftH H1 r l'), ?_, ?_⟩
    · rcases hb with rfl | ⟨h2, b, rfl, hbb⟩
      · refine ⟨0, .inr ⟨rfl, ?_⟩⟩
        cases he : elems p with
        | nil => rw [he] at hel; cases hel
        | cons e es =>
          rw [he] at hel
          cases hel with
          | cons h t => cases t; exact ⟨e, ks, v, l1, none, rfl, Same.refl _, rfl, h, hk⟩
      · exact ⟨1, .inl ⟨rfl, rfl, rfl, b, rfl, hbb, h2⟩⟩
    · rintro m σ H1 (⟨rfl, rfl, rfl, b, rfl, hbb, h2⟩ | ⟨rfl, e, r, v', l', x3, rfl, s1, ee, he, hr⟩)
      · refine ⟨_, rfl, b, _, 0, _, rfl, rfl, sqT hbb, atI_nat (j := 0) rfl, rfl, _, rfl, ?_⟩
        rw [decide_eq_true rfl]
        refine iteT ?_
        refine ⟨_, fun _ _ h => h, ?_⟩
        refine ⟨_, rfl, _, rfl, b, _, rfl, sqT hbb, ?_, fun U nU => ?_⟩
        · intro h
          have := h.1
          rw [show (some (1 : Int)) = some ((1 : Nat) : Int) from rfl, HT.sIx_nat, List.length_cons] at this
          omega
        rw [cut_tl]
        have sU := same_new (o := .tup vs) nU
        have hU : upd H1 U (.tup vs) U = some (.tup vs) := upd_same
        generalize upd H1 U (.tup vs) = H2 at sU hU ⊢
        refine ⟨U, _, rfl, .inr ⟨sqT hU, ?_⟩⟩
        have hn := hel.length
        refine for_it (walk_revT (K := K) (a := U) (xs := vs)) (fun i σ H' => ∃ (li : V) (x3 : Option V), σ = [some (.ref a), some (.ref b), some li, x3] ∧ Same H2 H' ∧ LeftH H' ((elems p).drop (vs.length - i) ++ ks) li)
          ⟨l1, none, rfl, Same.refl _, by rw [Nat.sub_zero, ← hn, List.drop_length]; exact hk.keep fun a xs e => sU _ _ e⟩ (fun i σ H' _ h => by obtain ⟨_, _, _, h, _⟩ := h; exact sqT (h _ _ hU)) ?_ ?_
        · rintro i x σ H5 H6 hi ⟨li, x3, rfl, s5, hL⟩ ⟨rfl, hx⟩
          have hxi : vs[vs.length - 1 - i]? = some x := hx
          obtain ⟨e0, he0, hsq⟩ := Paired.at hel hxi
          have hde : (elems p).drop (vs.length - (i + 1)) = e0 :: (elems p).drop (vs.length - i) := by
            have h1 : vs.length - (i + 1) = vs.length - 1 - i := by omega
            have hlt := (List.getElem?_eq_some_iff.mp he0).1
            rw [h1, List.drop_eq_getElem_cons hlt, (List.getElem?_eq_some_iff.mp he0).2]
            congr 2
            omega
          refine ⟨_, rfl, _, rfl, by show 2 ≤ sizeLine; exact sz _ (by omega), fun T nT => ?_⟩
          have sT := same_new (o := .tup [x, li]) nT
          refine ⟨.ref T, some x, rfl, s5.trans sT, ?_⟩
          rw [hde]
          exact ⟨T, x, li, rfl, upd_same, ⟨[x], hsq.keep (fun a xs e => sT _ _ (s5 _ _ (sU _ _ e))), .inl rfl⟩, hL.keep fun a xs e => sT _ _ e⟩
        · rintro σ H5 ⟨li, x3, rfl, s5, hL⟩
          rw [Nat.sub_self, List.drop_zero] at hL
          cases he : elems p with
          | nil => rw [he] at hn; simp at hn; omega
          | cons e es =>
            rw [he] at hL
            obtain ⟨c, v', l', rfl, hc, ⟨vs', hq', hb'⟩, hL'⟩ := hL
            refine ⟨_, rfl, c, _, rfl, sqT hc, rfl, _, _, rfl, _, _, rfl, rfl, ?_⟩
            refine ⟨0, by omega, .inr ⟨rfl, e, es ++ ks, v', l', x3, rfl, sU.trans s5, rfl, ?_, hL'⟩⟩
            have hone : ∀ {p : Prg.Pr} {e : Prg.Pr} {vs : List V}, e ∈ elems p → SqH H5 e vs → ∃ v, vs = [v] := by
              intro p
              induction p with
              | nil => intro e vs h; cases h
              | leaf l r ih =>
                intro e vs h hs
                rcases List.mem_cons.mp h with rfl | h
                · obtain ⟨v, ws, rfl, _, h2⟩ := hs; cases h2; exact ⟨v, rfl⟩
                · exact ih h hs
              | whil c p r _ ih =>
                intro e vs h hs
                rcases List.mem_cons.mp h with rfl | h
                · obtain ⟨a, x, y, ys, ws, rfl, _, _, _, _, h2⟩ := hs; cases h2; exact ⟨_, rfl⟩
                · exact ih h hs
              | cond c p q r _ _ ih =>
                intro e vs h hs
                rcases List.mem_cons.mp h with rfl | h
                · obtain ⟨a, x, y, z, ys, zs, ws, rfl, _, _, _, _, _, _, h2⟩ := hs; cases h2; exact ⟨_, rfl⟩
                · exact ih h hs
            obtain ⟨u, rfl⟩ := hone (p := p) (by rw [he]; exact List.mem_cons_self ..) hq'
            rcases hb' with h | ⟨h, _⟩
            · rw [← h]; exact hq'
            · exact absurd (show 2 ≤ 1 from h) (by decide)
      · obtain ⟨b, kd, xs, rfl, hbb, nk⟩ := hd H1 e v' he
        refine ⟨_, rfl, b, _, 0, _, rfl, rfl, sqT hbb, atI_nat (j := 0) rfl, rfl, _, rfl, ?_⟩
        rw [decide_eq_false nk]
        refine iteF ?_
        exact fin H1 e r _ l' x3 s1 ee he hr
end
end Own

namespace Own
open PySem PySem.Spec PyProof.Rows L2 SX RZ
section
variable {P : Program} {w : World} {K : PySem.W.Frag} {mg : Str → Option Value} {base : Heap}
def spFte : Sp := fun vs H Q _ => ∃ (gs x ws : List Nat), vs = [tx gs, tx x, tx ws] ∧ Good gs ∧ Its_ gs 3 x ∧ ws.length ≤ 300 ∧ (∀ c ∈ ws, c ∈ gs) ∧ ∀ H', Same H H' → Q (tx (fillX gs x ws)) H'
abbrev sFte : Stmt := topS 64
abbrev fteN : List Str := ["letters", "fill", "text", "template"]
theorem scFte : FnScope fteN ["letters", "fill", "text"] (defScope sFte) := ⟨rfl, rfl, rfl, by decide +kernel, rfl, by decide +kernel, by decide +kernel⟩
theorem ok_fte {f : Addr} {fd : FuncData} (F : Fun K "filled_text" "filled_text" sFte f fd) (m_len : mg "len" = none) {CT fI fL fF : Addr} {fdI fdL fdF : FuncData} (T : TmC K CT) (M : Mk K CT fI) (gC : mg "Template" = some (.ref CT)) (GI : FnOk P w K mg base CX0 4 fI fdI ["self", "letters", "text"] (spTi CT)) (bI : Binds K fdI ["self", "letters", "text"] []) (mL : Meth K CT "length" fL) (GL : FnOk P w K mg base CX0 4 fL fdL ["self", "size"] (spLn CT)) (bL : Binds K fdL ["self", "size"] []) (mF : Meth K CT "fill" fF) (GF : FnOk P w K mg base CX0 5 fF fdF ["self", "text"] (spFi CT)) (bF : Binds K fdF ["self", "text"] []) (gM : ∃ t, mg "MOST_TEXT" = some (.int 10000 t)) :
    FnOk P w K mg base CX0 7 f fd ["letters", "fill", "text"] spFte := by
  refine F.ok scFte (fun vs H Q E h => ?_) (fun cdv A outer s H vs Q E hr h => ?_)
  · obtain ⟨gs, x, ws, rfl, _⟩ := h
    rfl
  · obtain ⟨gs, x, ws, rfl, hg, hx, hw, hm, q⟩ := h
    obtain ⟨tM, gM⟩ := gM
    refine ⟨_, (pss_cons (ps_set (i := 3) scFte.nd rfl (by first | exact .inl rfl | exact .inr rfl) (pe_make M GI (hr.mono (by decide)) (by rfl) gC bI .nil pass0 (pa_cons (pv 0) (pa_cons (pv 1) pa_nil))))
      (pss_cons (ps_if (pt_cmpR op_gt (pe_meth (pv 3) T.cls mL GL (hr.mono (by decide)) bL .nil pass0 (pa_cons (pe_callB call_len_str (by rfl) m_len PySem.boot_len (pa_cons (pv 2) pa_nil)) pa_nil)) (pe_glob (v := .int 10000) (by rfl) gM ⟨_, rfl⟩) (nomark _)) pss_never pss_nil)
      (pss_one (ps_ret (pe_meth (pv 3) T.cls mF GF (hr.mono (by decide)) bF .nil pass0 (pa_cons (pv 2) pa_nil)))))), ?_⟩
    obtain ⟨r1, l1, e1⟩ := its_spec hx
    dsimp only [tSeq, tAsg]
    refine tm_mk (gs := gs) (t := x) (its := itsOf gs 3 x) (fun kk hkk => ⟨_, rfl, _, rfl, hkk _ (Same.refl _)⟩) hg (by rw [← e1]; exact rTx_len hg r1 (by omega)) (by have := rd_r hg.lo r1; rw [e1] at this; exact this) fun H1 p s1 np tm => ?_
    have hhi := hg.hi
    have lz : ∀ k : Nat, k ≤ 100100 → k ≤ sizeLine := fun k hk => by rw [sizeLine_eq]; omega
    obtain ⟨dx, pp, hp, _⟩ := id tm
    try dsimp only [gName, tSeq, tAsg, List.set_cons_zero, List.set_cons_succ]
    refine ⟨_, rfl, p, dx, _, rfl, hp, rfl, _, rfl, S ws, rfl, by rw [S_len]; exact lz _ (by omega), ?_⟩
    have b1 := fill_le hg r1 (xs := ws) (b := 3) (m := 300) l1 hw (by omega)
    rw [fill_len hg r1] at b1
    have hnb : nBl (itsOf gs 3 x) ≤ 3 := by
      have := bl_lt (itsOf gs 3 x)
      omega
    refine ⟨p, gs, _, ((S ws).length : Int), rfl, tm, by omega, (fun z hz => by have := row_len hg r1 z hz; omega), .inl ⟨by omega, by omega⟩, fun H2 s2 => ?_⟩
    refine ⟨_, _, rfl, rfl, _, rfl, ?_⟩
    rw [decide_eq_false (by
      rw [S_len]
      have : ((nLt (itsOf gs 3 x) : Nat) : Int) + ((nBl (itsOf gs 3 x) : Nat) : Int) * (ws.length : Int) = ((nLt (itsOf gs 3 x) + nBl (itsOf gs 3 x) * ws.length : Nat) : Int) := by push_cast; rfl
      omega)]
    refine iteF ?_
    refine ⟨_, rfl, p, dx, _, rfl, s2 _ _ hp, rfl, _, rfl, p, gs, _, ws, rfl, tm.same s2, hg, r1, by omega, by omega, hm, fun H3 s3 => q _ ((s1.trans s2).trans s3)⟩
end
end Own

namespace Own
open PySem PySem.Spec PyProof.Rows L2 SX RZ
section
variable {P : Program} {w : World} {K : PySem.W.Frag} {mg : Str → Option Value} {base : Heap}
def spSte : Sp := fun vs H Q _ => ∃ (gs ws : List Nat) (p : Prg.Pr) (ks : List Prg.Pr) (l : V), vs = [tx gs, tx ws, l] ∧ Good gs ∧ ws.length ≤ 300 ∧ (∀ c ∈ ws, c ∈ gs) ∧ LeftH H (p :: ks) l ∧ OkK gs (p :: ks) ∧ ∀ H' v, Same H H' → NowH H' (stepS gs ⟨ws, p :: ks, none⟩) v → Q v H'
abbrev sSte : Stmt := topS 65
abbrev steN : List Str := ["letters", "text", "left", "program", "rest", "kind", "chosen"]
theorem scSte : FnScope steN ["letters", "text", "left"] (defScope sSte) := ⟨rfl, rfl, rfl, by decide +kernel, rfl, by decide +kernel, by decide +kernel⟩
theorem ok_ste {f : Addr} {fd : FuncData} (F : Fun K "stepped" "stepped" sSte f fd) {f1 : Addr} {fd1 : FuncData} (c1 : Cl P w K mg base "unfolded" 2 ["left"] spUnf f1 fd1) {f2 : Addr} {fd2 : FuncData} (c2 : Cl P w K mg base "filled_text" 7 ["letters", "fill", "text"] spFte f2 fd2) {f3 : Addr} {fd3 : FuncData} (c3 : Cl P w K mg base "condition_holds" 10 ["letters", "condition", "text"] spSh f3 fd3) :
    FnOk P w K mg base CX0 11 f fd ["letters", "text", "left"] spSte := by
  refine F.ok scSte (fun vs H Q E h => ?_) (fun cdv A outer s H vs Q E hr h => ?_)
  · obtain ⟨gs, ws, p, ks, l, rfl, _⟩ := h
    rfl
  · obtain ⟨gs, ws, p, ks, l, rfl, hg, hw, hm, hl, ok, q⟩ := h
    refine ⟨_, (pss_cons (ps_asg (pe_cl c1 hr (by decide) (by rfl) (pa_cons (pv 2) pa_nil)) (pg_tup rfl (pgs_cons (pg_name (i := 3) scSte.nd rfl (by first | exact .inl rfl | exact .inr rfl)) (pgs_cons (pg_name (i := 4) scSte.nd rfl (by first | exact .inl rfl | exact .inr rfl)) pgs_nil))))
      (pss_cons (ps_set (i := 5) scSte.nd rfl (by first | exact .inl rfl | exact .inr rfl) (pe_ix (ixT (K := K) rfl) (pv 3) pe_int (fun _ _ => rfl)))
      (pss_cons (ps_if (pt_cmpR op_eq (pv 5) pe_str (nomark _)) (pss_one (ps_ret (pe_tup (pa_cons (pe_cl c2 hr (by decide) (by rfl) (pa_cons (pv 0) (pa_cons (pe_ix (ixT (K := K) rfl) (pv 3) pe_int (fun _ _ => rfl)) (pa_cons (pv 1) pa_nil)))) (pa_cons (pv 4) (pa_cons pe_non pa_nil)))))) pss_nil)
      (pss_cons (ps_if (pt_cmpR op_eq (pv 5) pe_str (nomark _)) (pss_one (ps_ret (pe_tup (pa_cons (pv 1) (pa_cons pe_non (pa_cons (pe_ix (ixT (K := K) rfl) (pv 3) pe_int (fun _ _ => rfl)) pa_nil)))))) pss_nil)
      (pss_cons (ps_if (pt_cmpR op_eq (pv 5) pe_str (nomark _)) (pss_cons (ps_set (i := 6) scSte.nd rfl (by first | exact .inl rfl | exact .inr rfl) (pe_ifExp (pt_val (pe_cl c3 hr (by decide) (by rfl) (pa_cons (pv 0) (pa_cons (pe_ix (ixT (K := K) rfl) (pv 3) pe_int (fun _ _ => rfl)) (pa_cons (pv 1) pa_nil))))) (pe_ix (ixT (K := K) rfl) (pv 3) pe_int (fun _ _ => rfl)) (pe_ix (ixT (K := K) rfl) (pv 3) pe_int (fun _ _ => rfl))))
      (pss_one (ps_ret (pe_tup (pa_cons (pv 1) (pa_cons (pe_tup (pa_cons (pv 6) (pa_cons (pv 4) pa_nil))) (pa_cons pe_non pa_nil))))))) pss_nil)
      (pss_cons (ps_if (PW.pt (pw_and (pt_cmpR op_eq (pv 5) pe_str (nomark _)) (pw_and1 (pt_val (pe_cl c3 hr (by decide) (by rfl) (pa_cons (pv 0) (pa_cons (pe_ix (ixT (K := K) rfl) (pv 3) pe_int (fun _ _ => rfl)) (pa_cons (pv 1) pa_nil)))))))) (pss_one (ps_ret (pe_tup (pa_cons (pv 1) (pa_cons (pe_tup (pa_cons (pe_ix (ixT (K := K) rfl) (pv 3) pe_int (fun _ _ => rfl)) (pa_cons (pe_tup (pa_cons (pv 3) (pa_cons (pv 4) pa_nil))) pa_nil))) (pa_cons pe_non pa_nil)))))) pss_nil)
      (pss_one (ps_ret (pe_tup (pa_cons (pv 1) (pa_cons (pv 4) (pa_cons pe_non pa_nil)))))))))))), ?_⟩
    have sz : ∀ n : Nat, n ≤ 2000 → n ≤ sizeLine := fun n hn => by rw [sizeLine_eq]; omega
    obtain ⟨okp, hsm, hz⟩ := ok p (List.mem_cons_self ..)
    refine ⟨_, rfl, p, ks, l, rfl, hl, hsm, hz, fun H1 T e r v l' s1 hT ee he hr => ?_⟩
    have oke : OkP gs e ∧ Prg.some? e = true ∧ Prg.size e ≤ 300 := by
      have hmem : e ∈ elems p ∨ e ∈ ks := by
        have : e ∈ elems p ++ ks := by rw [ee]; exact List.mem_cons_self ..
        exact List.mem_append.mp this
      have esz : ∀ {p e : Prg.Pr}, e ∈ elems p → Prg.size e ≤ Prg.size p := by
        intro p
        induction p with
        | nil => intro e h; cases h
        | leaf l r ih =>
          intro e h
          rcases List.mem_cons.mp h with rfl | h
          · show 0 + 1 ≤ Prg.size r + 1; omega
          · exact Nat.le_trans (ih h) (by show Prg.size r ≤ Prg.size r + 1; omega)
        | whil c p r _ ih =>
          intro e h
          rcases List.mem_cons.mp h with rfl | h
          · show Prg.size p + 0 + 1 ≤ Prg.size p + Prg.size r + 1; omega
          · exact Nat.le_trans (ih h) (by show Prg.size r ≤ Prg.size p + Prg.size r + 1; omega)
        | cond c p q r _ _ ih =>
          intro e h
          rcases List.mem_cons.mp h with rfl | h
          · show Prg.size p + Prg.size q + 0 + 1 ≤ Prg.size p + Prg.size q + Prg.size r + 1; omega
          · exact Nat.le_trans (ih h) (by show Prg.size r ≤ Prg.size p + Prg.size q + Prg.size r + 1; omega)
      rcases hmem with h | h
      · exact ⟨(ok_elems okp e h).1, (ok_elems okp e h).2, Nat.le_trans (esz h) hz⟩
      · exact ok e (List.mem_cons_of_mem _ h)
    refine ⟨T, _, rfl, sqT hT, rfl, _, _, rfl, _, _, rfl, rfl, ?_⟩
    try dsimp only [gName, tSeq, tAsg, List.set_cons_zero, List.set_cons_succ]
    have fin : ∀ (H2 : Hp) (w' : List Nat) (r' : List Prg.Pr) (f' : Option (List Nat)) (z : V), Same H H2 → LeftH H2 r' z → stepS gs ⟨ws, p :: ks, none⟩ = ⟨w', r', f'⟩ → ∀ U, H2 U = none → Q (.ref U) (upd H2 U (.tup [tx w', z, wordV f'])) := fun H2 w' r' f' z s2 hz es U nU => by
      have sU := same_new (o := .tup [tx w', z, wordV f']) nU
      refine q _ _ (s2.trans sU) ?_
      rw [es]
      exact ⟨U, z, rfl, upd_same, hz.keep fun a xs e => sU _ _ e⟩
    cases e with
    | nil => exact nomatch oke.2.1
    | leaf lf rr =>
      obtain ⟨v', vs', e1, hlf, _⟩ := he
      cases e1
      cases lf with
      | skip =>
        obtain ⟨b, rfl, hb⟩ := hlf
        refine ⟨_, rfl, b, _, 0, _, rfl, rfl, sqT hb, atI_nat (j := 0) rfl, ?_⟩
        try dsimp only [gName, tSeq, tAsg, List.set_cons_zero, List.set_cons_succ]
        refine ⟨_, rfl, rfl, _, rfl, ?_⟩
        rw [decide_eq_false (by decide +kernel)]
        refine iteF ⟨_, rfl, rfl, _, rfl, ?_⟩
        rw [decide_eq_false (by decide +kernel)]
        refine iteF ⟨_, rfl, rfl, _, rfl, ?_⟩
        rw [decide_eq_false (by decide +kernel)]
        refine iteF ⟨_, rfl, rfl, _, rfl, ?_⟩
        rw [decide_eq_false (by decide +kernel)]
        refine iteF (iteF ?_)
        refine ⟨_, rfl, _, rfl, by show 3 ≤ sizeLine; exact sz _ (by omega), fun U nU => ?_⟩
        exact fin H1 _ r none l' s1 hr (by unfold stepS; dsimp only; rw [ee]) U nU
      | fill a x =>
        obtain ⟨b, rfl, hb⟩ := hlf
        refine ⟨_, rfl, b, _, 0, _, rfl, rfl, sqT hb, atI_nat (j := 0) rfl, ?_⟩
        try dsimp only [gName, tSeq, tAsg, List.set_cons_zero, List.set_cons_succ]
        refine ⟨_, rfl, rfl, _, rfl, ?_⟩
        rw [decide_eq_true rfl]
        refine iteT ?_
        refine ⟨_, rfl, _, rfl, b, _, 1, _, rfl, rfl, sqT hb, atI_nat (j := 1) rfl, _, rfl, gs, x, ws, rfl, hg, oke.1.1, hw, hm, fun H2 s2 => ?_⟩
        refine ⟨_, rfl, by show 3 ≤ sizeLine; exact sz _ (by omega), fun U nU => ?_⟩
        exact fin H2 _ r none l' (s1.trans s2) (hr.keep fun a xs e => s2 _ _ e) (by unfold stepS; dsimp only; rw [ee]) U nU
      | fail n =>
        obtain ⟨b, rfl, hb⟩ := hlf
        refine ⟨_, rfl, b, _, 0, _, rfl, rfl, sqT hb, atI_nat (j := 0) rfl, ?_⟩
        try dsimp only [gName, tSeq, tAsg, List.set_cons_zero, List.set_cons_succ]
        refine ⟨_, rfl, rfl, _, rfl, ?_⟩
        rw [decide_eq_false (by decide +kernel)]
        refine iteF ⟨_, rfl, rfl, _, rfl, ?_⟩
        rw [decide_eq_true rfl]
        refine iteT ?_
        refine ⟨_, rfl, _, rfl, b, _, 1, _, rfl, rfl, sqT hb, atI_nat (j := 1) rfl, by show 3 ≤ sizeLine; exact sz _ (by omega), fun U nU => ?_⟩
        exact fin H1 _ [] (some n) .non s1 rfl (by unfold stepS; dsimp only; rw [ee]) U nU
      | call n => exact oke.1.1.elim
    | whil c p1 rr =>
      obtain ⟨b, x, y, ys, ws', e1, hb, hc, hp1, hb1, _⟩ := he
      cases e1
      refine ⟨_, rfl, b, _, 0, _, rfl, rfl, sqT hb, atI_nat (j := 0) rfl, ?_⟩
      try dsimp only [gName, tSeq, tAsg, List.set_cons_zero, List.set_cons_succ]
      refine ⟨_, rfl, rfl, _, rfl, ?_⟩
      rw [decide_eq_false (by decide +kernel)]
      refine iteF ⟨_, rfl, rfl, _, rfl, ?_⟩
      rw [decide_eq_false (by decide +kernel)]
      refine iteF ⟨_, rfl, rfl, _, rfl, ?_⟩
      rw [decide_eq_false (by decide +kernel)]
      refine iteF ⟨_, rfl, rfl, _, rfl, ?_⟩
      rw [decide_eq_true rfl]
      refine iteT ?_
      refine ⟨_, rfl, _, rfl, b, _, 1, _, rfl, rfl, sqT hb, atI_nat (j := 1) rfl, _, rfl, gs, c, _, ws, rfl, hg, hc, oke.1.1, by omega, hm, fun H2 s2 => ?_⟩
      have hb2 := s2 _ _ hb
      have hr2 := hr.keep fun a xs e => s2 _ _ e
      cases ha : ansC gs ws c with
      | false =>
        refine ⟨_, rfl, iteF ?_⟩
        refine ⟨_, rfl, _, rfl, by show 3 ≤ sizeLine; exact sz _ (by omega), fun U nU => ?_⟩
        exact fin H2 _ r none l' (s1.trans s2) hr2 (by unfold stepS; dsimp only; rw [ee]; dsimp only; rw [if_neg (by rw [ha]; decide)]) U nU
      | true =>
        refine ⟨_, rfl, iteT ?_⟩
        refine ⟨_, rfl, _, rfl, b, _, 2, _, rfl, rfl, sqT hb2, atI_nat (j := 2) rfl, _, rfl, _, rfl, by show 2 ≤ sizeLine; exact sz _ (by omega), fun T1 nT1 => ?_⟩
        have sT := same_new (o := .tup [.ref b, l']) nT1
        have hT1 : upd H2 T1 (.tup [.ref b, l']) T1 = some (.tup [.ref b, l']) := upd_same
        generalize upd H2 T1 (.tup [.ref b, l']) = H3 at sT hT1 ⊢
        refine ⟨by show 2 ≤ sizeLine; exact sz _ (by omega), fun T2 nT2 => ?_⟩
        have sU := same_new (o := .tup [y, .ref T1]) nT2
        refine ⟨by show 3 ≤ sizeLine; exact sz _ (by omega), fun U nU => ?_⟩
        have k : ∀ a xs, H1 a = some (.tup xs) → upd H3 T2 (.tup [y, .ref T1]) a = some (.tup xs) := fun a xs e => sU _ _ (sT _ _ (s2 _ _ e))
        have hc' := hc.keep k
        have hp' := hp1.keep k
        have hb' := hb1.keep k
        refine fin _ _ (p1 :: .whil c p1 .nil :: r) none (.ref T2) (((s1.trans s2).trans sT).trans sU) ⟨T2, y, .ref T1, rfl, upd_same, ⟨ys, hp', hb'⟩, T1, .ref b, l', rfl, sU _ _ hT1, ⟨[.ref b], ⟨b, x, y, ys, [], rfl, k _ _ hb, hc', hp', hb', rfl⟩, .inl rfl⟩, hr.keep k⟩ ?_ U nU
        unfold stepS; dsimp only; rw [ee]; dsimp only; rw [if_pos ha]
    | cond c p1 p2 rr =>
      obtain ⟨b, x, y, z, ys, zs, ws', e1, hb, hc, hp1, hb1, hp2, hb2, _⟩ := he
      cases e1
      refine ⟨_, rfl, b, _, 0, _, rfl, rfl, sqT hb, atI_nat (j := 0) rfl, ?_⟩
      try dsimp only [gName, tSeq, tAsg, List.set_cons_zero, List.set_cons_succ]
      refine ⟨_, rfl, rfl, _, rfl, ?_⟩
      rw [decide_eq_false (by decide +kernel)]
      refine iteF ⟨_, rfl, rfl, _, rfl, ?_⟩
      rw [decide_eq_false (by decide +kernel)]
      refine iteF ⟨_, rfl, rfl, _, rfl, ?_⟩
      rw [decide_eq_true rfl]
      refine iteT ?_
      refine ⟨_, rfl, _, rfl, b, _, 1, _, rfl, rfl, sqT hb, atI_nat (j := 1) rfl, _, rfl, gs, c, _, ws, rfl, hg, hc, oke.1.1, by omega, hm, fun H2 s2 => ?_⟩
      have hb3 := s2 _ _ hb
      have hr2 := hr.keep fun a xs e => s2 _ _ e
      cases ha : ansC gs ws c with
      | false =>
        refine ⟨_, rfl, iteF ?_⟩
        refine ⟨_, rfl, b, _, 3, _, rfl, rfl, sqT hb3, atI_nat (j := 3) rfl, ?_⟩
        try dsimp only [gName, tSeq, tAsg, List.set_cons_zero, List.set_cons_succ]
        refine ⟨_, rfl, _, rfl, _, rfl, by show 2 ≤ sizeLine; exact sz _ (by omega), fun T1 nT1 => ?_⟩
        have sT := same_new (o := .tup [z, l']) nT1
        refine ⟨by show 3 ≤ sizeLine; exact sz _ (by omega), fun U nU => ?_⟩
        refine fin _ _ (p2 :: r) none (.ref T1) ((s1.trans s2).trans sT) ⟨T1, z, l', rfl, upd_same, ⟨zs, hp2.keep fun a xs e => sT _ _ (s2 _ _ e), hb2.keep fun a xs e => sT _ _ (s2 _ _ e)⟩, hr2.keep fun a xs e => sT _ _ e⟩ ?_ U nU
        unfold stepS; dsimp only; rw [ee]; dsimp only; rw [if_neg (by rw [ha]; decide)]
      | true =>
        refine ⟨_, rfl, iteT ?_⟩
        refine ⟨_, rfl, b, _, 2, _, rfl, rfl, sqT hb3, atI_nat (j := 2) rfl, ?_⟩
        try dsimp only [gName, tSeq, tAsg, List.set_cons_zero, List.set_cons_succ]
        refine ⟨_, rfl, _, rfl, _, rfl, by show 2 ≤ sizeLine; exact sz _ (by omega), fun T1 nT1 => ?_⟩
        have sT := same_new (o := .tup [y, l']) nT1
        refine ⟨by show 3 ≤ sizeLine; exact sz _ (by omega), fun U nU => ?_⟩
        refine fin _ _ (p1 :: r) none (.ref T1) ((s1.trans s2).trans sT) ⟨T1, y, l', rfl, upd_same, ⟨ys, hp1.keep fun a xs e => sT _ _ (s2 _ _ e), hb1.keep fun a xs e => sT _ _ (s2 _ _ e)⟩, hr2.keep fun a xs e => sT _ _ e⟩ ?_ U nU
        unfold stepS; dsimp only; rw [ee]; dsimp only; rw [if_pos ha]
end
end Own

namespace Own
open PySem PySem.Spec PyProof.Rows L2 SX RZ
section
variable {P : Program} {w : World} {K : PySem.W.Frag} {mg : Str → Option Value} {base : Heap}

/-! ### a run, as it lies -/
structure RuC (K : PySem.W.Frag) (C : Addr) : Prop where
  cls : Cls K C
  na : NoAttr K C "alphabet"
  nn : NoAttr K C "now"
  np : NoAttr K C "past"
structure RunA (H : Hp) (C x L : Addr) (gs : List Nat) (hist : List RS) (cur : RS) : Prop where
  ins : ∃ dx v, H x = some (.ins C dx [("alphabet", tx gs), ("now", v), ("past", .ref L)]) ∧ NowH H cur v
  past : ∃ vs, H L = some (.lst vs) ∧ Paired (NowH H) hist vs
theorem RunA.keep {H H' : Hp} {C x L : Addr} {gs : List Nat} {hist : List RS} {cur : RS} (h : RunA H C x L gs hist cur) (k : ∀ b o, H b = some o → (b = x ∨ b = L ∨ ∃ xs, o = .tup xs) → H' b = some o) : RunA H' C x L gs hist cur := by
  obtain ⟨⟨dx, v, h1, h2⟩, vs, h3, h4⟩ := h
  have kt : ∀ a xs, H a = some (.tup xs) → H' a = some (.tup xs) := fun a xs e => k _ _ e (.inr (.inr ⟨_, rfl⟩))
  exact ⟨⟨dx, v, k _ _ h1 (.inl rfl), h2.keep kt⟩, vs, k _ _ h3 (.inr (.inl rfl)), Paired.mapP h4 fun _ _ z => z.keep kt⟩
theorem RunA.same {H H' : Hp} {C x L : Addr} {gs : List Nat} {hist : List RS} {cur : RS} (h : RunA H C x L gs hist cur) (s : Same H H') : RunA H' C x L gs hist cur := h.keep fun _ _ e _ => s _ _ e
theorem RunA.ne {H : Hp} {C x L : Addr} {gs : List Nat} {hist : List RS} {cur : RS} (h : RunA H C x L gs hist cur) : x ≠ L := by
  obtain ⟨⟨dx, v, h1, _⟩, vs, h3, _⟩ := h
  exact ne_of h1 h3 fun z => nomatch z
/-- all but the run itself stays -/
def Chg (H H' : Hp) (x L : Addr) : Prop := ∀ b o, b ≠ x → b ≠ L → H b = some o → H' b = some o
theorem Chg.tup {H H' : Hp} {C x L : Addr} {gs : List Nat} {hist : List RS} {cur : RS} (h : RunA H C x L gs hist cur) (k : Chg H H' x L) : ∀ a xs, H a = some (.tup xs) → H' a = some (.tup xs) := fun a xs e => by
  obtain ⟨⟨dx, v, h1, _⟩, vs, h3, _⟩ := h
  exact k _ _ (fun z => by rw [z, h1] at e; cases e) (fun z => by rw [z, h3] at e; cases e) e
def stV (s : RS) : V := match s.f, s.ks with
  | some _, _ => .str (Str.ofString "failed")
  | none, [] => .str (Str.ofString "ended")
  | none, _ :: _ => .str (Str.ofString "running")
/-- a run whose states are as they should be -/
structure WfS (gs : List Nat) (s : RS) : Prop where
  mem : ∀ c ∈ s.w, c ∈ gs
  ok : OkK gs s.ks
structure GoS (gs : List Nat) (s : RS) : Prop where
  wf : WfS gs s
  len : s.w.length ≤ 300
  run : s.f = none
  some : s.ks ≠ []
noncomputable def stN (gs : List Nat) (s : RS) : Nat → RS
  | 0 => s
  | n + 1 => stepS gs (stN gs s n)
noncomputable def hisN (gs : List Nat) (s : RS) : Nat → List RS
  | 0 => []
  | n + 1 => hisN gs s n ++ [stN gs s n]
theorem hisN_len {gs : List Nat} {s : RS} : ∀ n, (hisN gs s n).length = n
  | 0 => rfl
  | n + 1 => by show (hisN gs s n ++ [_]).length = _; rw [List.length_append, hisN_len n]; rfl
abbrev RuM (i : Nat) : Stmt := inClass (topS 66) i
/-! the state -/
def spRst (C : Addr) : Sp := fun vs H Q _ => ∃ (x L : Addr) (gs : List Nat) (hist : List RS) (cur : RS), vs = [.ref x] ∧ RunA H C x L gs hist cur ∧ Q (stV cur) H
abbrev sRst : Stmt := RuM 2
theorem scRst : FnScope ["self"] ["self"] (defScope sRst) := ⟨rfl, rfl, rfl, by decide +kernel, rfl, by decide +kernel, by decide +kernel⟩
theorem ok_rst {f C : Addr} {fd : FuncData} (F : Fun K "state" "Run.state" sRst f fd) (T : RuC K C) : FnOk P w K mg base CX0 1 f fd ["self"] (spRst C) := by
  refine F.ok scRst (fun vs H Q E h => ?_) (fun cdv A outer s H vs Q E hr h => ?_)
  · obtain ⟨x, L, gs, hist, cur, rfl, _⟩ := h
    rfl
  · obtain ⟨x, L, gs, hist, cur, rfl, hR, q⟩ := h
    obtain ⟨⟨dx, v, h1, a, l, rfl, h2, h3⟩, _⟩ := hR
    refine ⟨_, pss_cons (ps_if (pt_cmpR op_notN (pe_ix (ixT (K := K) rfl) (pe_fld (pv 0) (by rfl)) pe_int (fun _ _ => rfl)) pe_non (nomark _)) (pss_one (ps_ret pe_str)) pss_nil)
      (pss_one (ps_ret (pe_ifExp (pt_cmpR op_isN (pe_ix (ixT (K := K) rfl) (pe_fld (pv 0) (by rfl)) pe_int (fun _ _ => rfl)) pe_non (nomark _)) pe_str pe_str))), ?_⟩
    refine ⟨_, rfl, x, C, dx, _, _, rfl, h1, T.cls, T.nn, rfl, a, _, 2, _, rfl, rfl, sqT h2, atI_nat (j := 2) rfl, ?_⟩
    try dsimp only [gName, tSeq, tAsg]
    obtain ⟨w, ks, f⟩ := cur
    cases f with
    | some n =>
      rw [decide_eq_false (by show ¬ tx n = V.non; exact fun z => nomatch z)]
      exact ⟨rfl, _, rfl, iteT q⟩
    | none =>
      rw [decide_eq_true (by rfl)]
      refine ⟨rfl, _, rfl, iteF ⟨_, rfl, x, C, dx, _, _, rfl, h1, T.cls, T.nn, rfl, a, _, 1, _, rfl, rfl, sqT h2, atI_nat (j := 1) rfl, rfl, _, rfl, ?_⟩⟩
      cases ks with
      | nil =>
        obtain rfl : l = .non := h3
        rw [decide_eq_true rfl]
        exact q
      | cons p r =>
        obtain ⟨b, v, l', rfl, _⟩ := h3
        rw [decide_eq_false (fun z => nomatch z)]
        exact q
def spRpr (C : Addr) : Sp := fun vs H Q _ => ∃ (x L : Addr) (gs : List Nat) (hist : List RS) (cur : RS), vs = [.ref x] ∧ RunA H C x L gs hist cur ∧ Q (tx cur.w) H
abbrev sRpr : Stmt := RuM 1
theorem scRpr : FnScope ["self"] ["self"] (defScope sRpr) := ⟨rfl, rfl, rfl, by decide +kernel, rfl, by decide +kernel, by decide +kernel⟩
theorem ok_rpr {f C : Addr} {fd : FuncData} (F : Fun K "present" "Run.present" sRpr f fd) (T : RuC K C) : FnOk P w K mg base CX0 1 f fd ["self"] (spRpr C) := by
  refine F.ok scRpr (fun vs H Q E h => ?_) (fun cdv A outer s H vs Q E hr h => ?_)
  · obtain ⟨x, L, gs, hist, cur, rfl, _⟩ := h
    rfl
  · obtain ⟨x, L, gs, hist, cur, rfl, hR, q⟩ := h
    obtain ⟨⟨dx, v, h1, a, l, rfl, h2, h3⟩, _⟩ := hR
    refine ⟨_, pss_one (ps_ret (pe_ix (ixT (K := K) rfl) (pe_fld (pv 0) (by rfl)) pe_int (fun _ _ => rfl))), ?_⟩
    exact ⟨_, rfl, x, C, dx, _, _, rfl, h1, T.cls, T.nn, rfl, a, _, 0, _, rfl, rfl, sqT h2, atI_nat (j := 0) rfl, q⟩
def spRwo (C : Addr) : Sp := fun vs H Q _ => ∃ (x L : Addr) (gs : List Nat) (hist : List RS) (cur : RS), vs = [.ref x] ∧ RunA H C x L gs hist cur ∧ Q (wordV cur.f) H
abbrev sRwo : Stmt := RuM 3
theorem scRwo : FnScope ["self"] ["self"] (defScope sRwo) := ⟨rfl, rfl, rfl, by decide +kernel, rfl, by decide +kernel, by decide +kernel⟩
theorem ok_rwo {f C : Addr} {fd : FuncData} (F : Fun K "word" "Run.word" sRwo f fd) (T : RuC K C) : FnOk P w K mg base CX0 1 f fd ["self"] (spRwo C) := by
  refine F.ok scRwo (fun vs H Q E h => ?_) (fun cdv A outer s H vs Q E hr h => ?_)
  · obtain ⟨x, L, gs, hist, cur, rfl, _⟩ := h
    rfl
  · obtain ⟨x, L, gs, hist, cur, rfl, hR, q⟩ := h
    obtain ⟨⟨dx, v, h1, a, l, rfl, h2, h3⟩, _⟩ := hR
    refine ⟨_, pss_one (ps_ret (pe_ix (ixT (K := K) rfl) (pe_fld (pv 0) (by rfl)) pe_int (fun _ _ => rfl))), ?_⟩
    exact ⟨_, rfl, x, C, dx, _, _, rfl, h1, T.cls, T.nn, rfl, a, _, 2, _, rfl, rfl, sqT h2, atI_nat (j := 2) rfl, q⟩
def spRss (C : Addr) : Sp := fun vs H Q _ => ∃ (x L : Addr) (gs : List Nat) (hist : List RS) (cur : RS), vs = [.ref x] ∧ RunA H C x L gs hist cur ∧ hist.length ≤ 900 ∧ Q (iv hist.length) H
abbrev sRss : Stmt := RuM 4
theorem scRss : FnScope ["self"] ["self"] (defScope sRss) := ⟨rfl, rfl, rfl, by decide +kernel, rfl, by decide +kernel, by decide +kernel⟩
theorem ok_rss {f C : Addr} {fd : FuncData} (F : Fun K "steps" "Run.steps" sRss f fd) (T : RuC K C) (ml : mg "len" = none) : FnOk P w K mg base CX0 1 f fd ["self"] (spRss C) := by
  refine F.ok scRss (fun vs H Q E h => ?_) (fun cdv A outer s H vs Q E hr h => ?_)
  · obtain ⟨x, L, gs, hist, cur, rfl, _⟩ := h
    rfl
  · obtain ⟨x, L, gs, hist, cur, rfl, hR, hl, q⟩ := h
    obtain ⟨⟨dx, v, h1, _⟩, xs, h2, h3⟩ := hR
    have e : hist.length = xs.length := Paired.length h3
    refine ⟨_, pss_one (ps_ret (pe_callB call_len_seq (by rfl) ml PySem.boot_len (pa_cons (pe_fld (pv 0) (by rfl)) pa_nil))), ?_⟩
    refine ⟨_, rfl, x, C, dx, _, _, rfl, h1, T.cls, T.np, rfl, L, _, rfl, .inl (sqL h2), ?_⟩
    rw [← e]
    exact q
/-! making a run -/
def spRi (C : Addr) : Sp := fun vs H Q _ => ∃ (x dx : Addr) (gs ws : List Nat) (p : Prg.Pr) (v : V), vs = [.ref x, tx gs, v, tx ws] ∧ H x = some (.ins C dx []) ∧ Good gs ∧ PgH H p v ∧ OkP gs p ∧ Prg.some? p = true ∧ Prg.size p ≤ 300 ∧ (∀ c ∈ ws, c ∈ gs) ∧
  ∀ H' L, (∀ b o, b ≠ x → H b = some o → H' b = some o) → H L = none → RunA H' C x L gs [] ⟨ws, [p], none⟩ → Q .non H'
abbrev sRi : Stmt := RuM 0
theorem scRi : FnScope ["self", "letters", "program", "text"] ["self", "letters", "program", "text"] (defScope sRi) := ⟨rfl, rfl, rfl, by decide +kernel, rfl, by decide +kernel, by decide +kernel⟩
theorem ok_ri {f f1 f2 f3 C : Addr} {fd fd1 fd2 fd3 : FuncData} (F : Fun K "__init__" "Run.__init__" sRi f fd) (T : RuC K C)
    (c1 : Cl P w K mg base "check_letters" 1 ["letters"] spCLn f1 fd1) (c2 : Cl P w K mg base "check_nameless" 7 ["program"] spNl2 f2 fd2) (c3 : Cl P w K mg base "check_text" 1 ["letters", "text"] spCk f3 fd3) :
    FnOk P w K mg base CX0 8 f fd ["self", "letters", "program", "text"] (spRi C) := by
  refine F.ok scRi (fun vs H Q E h => ?_) (fun cdv A outer s H vs Q E hr h => ?_)
  · obtain ⟨x, dx, gs, ws, p, v, rfl, _⟩ := h
    rfl
  · obtain ⟨x, dx, gs, ws, p, v, rfl, hx, hg, hp, ok, hsm, hz, hm, q⟩ := h
    refine ⟨_, pss_cons (ps_expr (pe_cl c1 hr (by decide) (by rfl) (pa_cons (pv 1) pa_nil)))
      (pss_cons (ps_expr (pe_cl c2 hr (by decide) (by rfl) (pa_cons (pv 2) pa_nil)))
      (pss_cons (ps_expr (pe_cl c3 hr (by decide) (by rfl) (pa_cons (pv 1) (pa_cons (pv 3) pa_nil))))
      (pss_cons (ps_fld (pv 0) (pv 1) (by rfl))
      (pss_cons (ps_fld (pv 0) (pe_tup (pa_cons (pv 3) (pa_cons (pe_tup (pa_cons (pv 2) (pa_cons pe_non pa_nil))) (pa_cons pe_non pa_nil)))) (by rfl))
      (pss_one (ps_fld (pv 0) (pe_lst pa_nil) (by rfl))))))), ?_⟩
    have sz : ∀ n : Nat, n ≤ 2000 → n ≤ sizeLine := fun n hn => by rw [sizeLine_eq]; omega
    refine ⟨_, rfl, gs, rfl, hg, fun H1 s1 => ?_⟩
    have hp1 := hp.keep fun a xs e => s1 _ _ e
    obtain ⟨ys, hq, hb⟩ := hp1
    obtain ⟨out, o1, ⟨nss, o2, o3⟩, o4⟩ := blk_nod hb (seq_nod ok hq hz) (by omega)
    refine ⟨_, rfl, v, out, nss, rfl, o1, by omega, o2, o3, fun H2 s2 => ?_⟩
    refine ⟨_, rfl, _, rfl, gs, ws, rfl, hm, fun H3 s3 => ?_⟩
    have s03 := (s1.trans s2).trans s3
    refine ⟨_, rfl, _, rfl, x, C, dx, _, rfl, s03 _ _ hx, T.cls, T.na, (by show 0 < 1000; decide), ?_⟩
    have k3 : ∀ b o, b ≠ x → H b = some o → upd H3 x (.ins C dx (putF "alphabet" (tx gs) [])) b = some o := fun b o nb e => by rw [upd_ne nb]; exact s03 _ _ e
    have hx3 : upd H3 x (.ins C dx (putF "alphabet" (tx gs) [])) x = some (.ins C dx (putF "alphabet" (tx gs) [])) := upd_same
    generalize upd H3 x (.ins C dx (putF "alphabet" (tx gs) [])) = H4 at k3 hx3 ⊢
    refine ⟨_, rfl, _, rfl, by show 2 ≤ sizeLine; exact sz _ (by omega), fun T1 nT1 => ?_⟩
    have sT := same_new (o := .tup [v, .non]) nT1
    have hT1 : upd H4 T1 (.tup [v, .non]) T1 = some (.tup [v, .non]) := upd_same
    generalize upd H4 T1 (.tup [v, .non]) = H5 at sT hT1 ⊢
    refine ⟨by show 3 ≤ sizeLine; exact sz _ (by omega), fun T2 nT2 => ?_⟩
    have sU := same_new (o := .tup [tx ws, .ref T1, .non]) nT2
    have hT2 : upd H5 T2 (.tup [tx ws, .ref T1, .non]) T2 = some (.tup [tx ws, .ref T1, .non]) := upd_same
    generalize upd H5 T2 (.tup [tx ws, .ref T1, .non]) = H6 at sU hT2 ⊢
    have hx6 := sU _ _ (sT _ _ hx3)
    refine ⟨_, rfl, x, C, dx, _, rfl, hx6, T.cls, T.nn, (by show 1 < 1000; decide), ?_⟩
    refine ⟨by show 0 ≤ sizeLine; exact sz _ (by omega), fun L nL => ?_⟩
    have n1 : x ≠ T1 := fun z => by have := sT _ _ hx3; rw [z, hT1] at this; cases this
    have n2 : x ≠ T2 := fun z => by have := hx6; rw [z, hT2] at this; cases this
    have nLx : x ≠ L := fun z => by rw [← z, upd_same] at nL; cases nL
    have hL6 : H6 L = none := by rw [upd_ne nLx.symm] at nL; exact nL
    have hx7 : upd (upd H6 x (.ins C dx (putF "now" (.ref T2) (putF "alphabet" (tx gs) [])))) L (.lst []) x = some (.ins C dx (putF "now" (.ref T2) (putF "alphabet" (tx gs) []))) := by rw [upd_ne nLx, upd_same]
    refine ⟨_, rfl, x, C, dx, _, rfl, hx7, T.cls, T.np, (by show 2 < 1000; decide), ?_⟩
    have kk : ∀ b o, b ≠ x → H6 b = some o → upd (upd (upd H6 x (.ins C dx (putF "now" (.ref T2) (putF "alphabet" (tx gs) [])))) L (.lst [])) x (.ins C dx (putF "past" (.ref L) (putF "now" (.ref T2) (putF "alphabet" (tx gs) [])))) b = some o := fun b o nb e => by
      rw [upd_ne nb, upd_ne (ne_of_none e hL6), upd_ne nb]
      exact e
    have k06 : ∀ b o, b ≠ x → H b = some o → H6 b = some o := fun b o nb e => sU _ _ (sT _ _ (k3 _ _ nb e))
    have kt : ∀ a xs, H a = some (.tup xs) → upd (upd (upd H6 x (.ins C dx (putF "now" (.ref T2) (putF "alphabet" (tx gs) [])))) L (.lst [])) x (.ins C dx (putF "past" (.ref L) (putF "now" (.ref T2) (putF "alphabet" (tx gs) [])))) a = some (.tup xs) := fun a xs e => by
      have nb : a ≠ x := fun z => by rw [z, hx] at e; cases e
      exact kk _ _ nb (k06 _ _ nb e)
    refine q _ L (fun b o nb e => kk _ _ nb (k06 _ _ nb e)) ?_ ⟨⟨dx, .ref T2, upd_same, T2, .ref T1, rfl, kk _ _ n2.symm hT2, T1, v, .non, rfl, kk _ _ n1.symm (sU _ _ hT1), hp.keep kt, rfl⟩, [], by rw [upd_ne nLx.symm, upd_same], .nil⟩
    cases e : H L with
    | none => rfl
    | some o => rw [k06 _ _ nLx.symm e] at hL6; cases hL6
/-! a step -/
def spRsp (C : Addr) : Sp := fun vs H Q _ => ∃ (x L : Addr) (gs : List Nat) (hist : List RS) (cur : RS), vs = [.ref x] ∧ RunA H C x L gs hist cur ∧ Good gs ∧ GoS gs cur ∧ hist.length ≤ 900 ∧
  ∀ H', Chg H H' x L → RunA H' C x L gs (hist ++ [cur]) (stepS gs cur) → Q .non H'
abbrev sRsp : Stmt := RuM 5
theorem scRsp : FnScope ["self", "following"] ["self"] (defScope sRsp) := ⟨rfl, rfl, rfl, by decide +kernel, rfl, by decide +kernel, by decide +kernel⟩
theorem ok_rsp {f f1 fs ps C : Addr} {fd fd1 fds : FuncData} (F : Fun K "step" "Run.step" sRsp f fd) (T : RuC K C) (PS : PropOf K C "state" ps fs) (GS : FnOk P w K mg base CX0 1 fs fds ["self"] (spRst C)) (bS : Binds K fds ["self"] [])
    (c1 : Cl P w K mg base "stepped" 11 ["letters", "text", "left"] spSte f1 fd1) : FnOk P w K mg base CX0 12 f fd ["self"] (spRsp C) := by
  refine F.ok scRsp (fun vs H Q E h => ?_) (fun cdv A outer s H vs Q E hr h => ?_)
  · obtain ⟨x, L, gs, hist, cur, rfl, _⟩ := h
    rfl
  · obtain ⟨x, L, gs, hist, cur, rfl, hR, hg, hs, hl, q⟩ := h
    refine ⟨_, pss_cons (ps_if (pt_cmpR op_ne (pe_prop (pv 0) T.cls PS GS (hr.mono (by decide)) bS .nil pass0 (by rfl)) pe_str (nomark _)) pss_never pss_nil)
      (pss_cons (ps_set (i := 1) scRsp.nd rfl (by first | exact .inl rfl | exact .inr rfl) (pe_cl c1 hr (by decide) (by rfl) (pa_cons (pe_fld (pv 0) (by rfl)) (pa_cons (pe_ix (ixT (K := K) rfl) (pe_fld (pv 0) (by rfl)) pe_int (fun _ _ => rfl)) (pa_cons (pe_ix (ixT (K := K) rfl) (pe_fld (pv 0) (by rfl)) pe_int (fun _ _ => rfl)) pa_nil)))))
      (pss_cons (ps_expr (pe_bm PySem.F.plainAttrs_list PySem.F.slot_list_append PySem.F.type_list_append mt_append (pe_fld (pv 0) (by rfl)) (pa_cons (pe_fld (pv 0) (by rfl)) pa_nil)))
      (pss_one (ps_fld (pv 0) (pv 1) (by rfl))))), ?_⟩
    have sz : ∀ n : Nat, n ≤ 2000 → n ≤ sizeLine := fun n hn => by rw [sizeLine_eq]; omega
    have xL := hR.ne
    obtain ⟨⟨dx, v, h1, a, l, rfl, h2, h3⟩, vs, h4, h5⟩ := id hR
    obtain ⟨⟨hm, ok⟩, hw, hf, hk⟩ := id hs
    obtain ⟨ws, ks, fl⟩ := cur
    cases hf
    cases ks with
    | nil => exact absurd rfl hk
    | cons p r =>
    refine ⟨_, rfl, x, dx, _, rfl, h1, x, L, gs, hist, _, rfl, hR, ?_⟩
    try dsimp only [gName, tSeq, tAsg]
    refine ⟨rfl, _, rfl, iteF ?_⟩
    refine ⟨_, rfl, x, C, dx, _, _, rfl, h1, T.cls, T.na, rfl, _, rfl, x, C, dx, _, _, rfl, h1, T.cls, T.nn, rfl, a, _, 0, _, rfl, rfl, sqT h2, atI_nat (j := 0) rfl, _, rfl, x, C, dx, _, _, rfl, h1, T.cls, T.nn, rfl, a, _, 1, _, rfl, rfl, sqT h2, atI_nat (j := 1) rfl, ?_⟩
    refine ⟨gs, ws, p, r, l, rfl, hg, hw, hm, h3, ok, fun H1 y s1 hy => ?_⟩
    have hx1 := s1 _ _ h1
    have hL1 := s1 _ _ h4
    refine ⟨_, rfl, x, C, dx, _, _, rfl, hx1, T.cls, T.np, rfl, .inl ⟨rfl, _, sqL hL1⟩, _, rfl, x, C, dx, _, _, rfl, hx1, T.cls, T.nn, rfl, L, _, _, rfl, rfl, hL1, ?_, ?_⟩
    · have := Paired.length h5
      rw [sizeLine_eq]; omega
    refine ⟨_, rfl, _, rfl, x, C, dx, _, rfl, by rw [upd_ne xL]; exact hx1, T.cls, T.nn, (by show 3 < 1000; decide), ?_⟩
    have kk : ∀ b o, b ≠ x → b ≠ L → H1 b = some o → upd (upd H1 L (.lst (vs ++ [.ref a]))) x (.ins C dx (putF "now" y [("alphabet", tx gs), ("now", .ref a), ("past", .ref L)])) b = some o := fun b o n1 n2 e => by
      rw [upd_ne n1, upd_ne n2]
      exact e
    have kt : ∀ b xs, H1 b = some (.tup xs) → upd (upd H1 L (.lst (vs ++ [.ref a]))) x (.ins C dx (putF "now" y [("alphabet", tx gs), ("now", .ref a), ("past", .ref L)])) b = some (.tup xs) := fun b xs e =>
      kk _ _ (fun z => by rw [z, hx1] at e; cases e) (fun z => by rw [z, hL1] at e; cases e) e
    refine q _ (fun b o n1 n2 e => kk _ _ n1 n2 (s1 _ _ e)) ⟨⟨dx, y, upd_same, hy.keep kt⟩, vs ++ [.ref a], by rw [upd_ne xL.symm, upd_same], ?_⟩
    refine Paired.snoc (Paired.mapP h5 fun _ _ z => z.keep fun b xs e => kt _ _ (s1 _ _ e)) ?_
    exact NowH.keep (fun b xs e => kt _ _ (s1 _ _ e)) ⟨a, l, rfl, h2, h3⟩
/-! a step back -/
/-! go -/
abbrev sRgo : Stmt := RuM 7
theorem scRgo : FnScope ["self", "many", "made"] ["self", "many"] (defScope sRgo) := ⟨rfl, rfl, rfl, by decide +kernel, rfl, by decide +kernel, by decide +kernel⟩
theorem gos_run {gs : List Nat} {s : RS} (h : GoS gs s) : stV s = .str (Str.ofString "running") := by
  obtain ⟨w, ks, f⟩ := s
  obtain ⟨_, _, hf, hk⟩ := h
  cases hf
  cases ks with
  | nil => exact absurd rfl hk
  | cons p r => rfl
end
end Own

namespace Own
open PySem PySem.Spec PyProof.Rows L2 SX RZ
section
variable {P : Program} {w : World} {K : PySem.W.Frag} {mg : Str → Option Value} {base : Heap}
def spLft : Sp := fun vs H Q _ => ∃ (r : Addr) (gs : List Nat), vs = [.ref r, tx gs] ∧ Good gs ∧ Rng H r ∧ ∀ H' x, Go r H H' → Its_ gs 3 x → Q (tx x) H'
theorem cut_rowL {gs : List Nat} {its : List (List Nat)} (h : Row gs its) (lo hi : Option Int) : ∃ js, cutV (its.map tx) lo hi = js.map tx ∧ Row gs js ∧ js.length ≤ its.length := by
  unfold cutV
  refine ⟨(its.drop (HT.sIx (its.map tx).length 0 lo)).take (HT.sIx (its.map tx).length (its.map tx).length hi - HT.sIx (its.map tx).length 0 lo), ?_, ?_, ?_⟩
  · rw [List.map_take, List.map_drop]
  · exact fun y hy => h y (List.mem_of_mem_drop (List.mem_of_mem_take hy))
  · rw [List.length_take, List.length_drop]; omega
abbrev unT (v : V) : List Nat := match v with
  | .str z => z.cps.toList
  | _ => []
theorem filter_tx {p : List Nat → Bool} {l : List (List Nat)} : (l.map tx).filter (fun v => p (unT v)) = (l.filter p).map tx := by
  rw [List.filter_map]
  rfl
theorem cut_two {xs : List V} {d : Nat} (h : d ≤ xs.length) : (cutV xs (some (d : Int)) none).length + (cutV xs none (some (d : Int))).length = xs.length := by
  unfold cutV
  rw [HT.sIx_nat, HT.sIx_none, HT.sIx_none, HT.sIx_nat, Nat.min_eq_left h, List.length_take, List.length_drop, List.length_take, List.length_drop]
  omega
abbrev sLft : Stmt := topS 83
abbrev lftN : List Str := ["_law_rng", "_law_signs", "_law_items_here", "_law_at", "_law_item"]
theorem scLft : FnScope lftN ["_law_rng", "_law_signs"] (defScope sLft) := ⟨rfl, rfl, rfl, by decide +kernel, rfl, by decide +kernel, by decide +kernel⟩
theorem ok_lft {f : Addr} {fd : FuncData} (F : Fun K "_law_fill_text" "_law_fill_text" sLft f fd) (m_len : mg "len" = none) {f1 : Addr} {fd1 : FuncData} (c1 : Cl P w K mg base "_law_items" 3 ["_law_rng", "_law_signs", "_law_most"] spItems f1 fd1) {f2 : Addr} {fd2 : FuncData} (c2 : Cl P w K mg base "_law_draw" 1 ["_law_rng", "_law_sides"] spDraw f2 fd2) {f3 : Addr} {fd3 : FuncData} (c3 : Cl P w K mg base "_law_turn" 2 ["_law_rng", "_law_signs"] spTurn f3 fd3) {f4 : Addr} {fd4 : FuncData} (c4 : Cl P w K mg base "_law_text" 1 ["_law_signs", "_law_items_here"] (spLx K) f4 fd4) :
    FnOk P w K mg base CX0 4 f fd ["_law_rng", "_law_signs"] spLft := by
  refine F.ok scLft (fun vs H Q E h => ?_) (fun cdv A outer s H vs Q E hr h => ?_)
  · obtain ⟨r, gs, rfl, _⟩ := h
    rfl
  · obtain ⟨r, gs, rfl, hg, R, q⟩ := h
    refine ⟨_, (pss_cons (ps_set (i := 2) scLft.nd rfl (by first | exact .inl rfl | exact .inr rfl) (pe_cl c1 hr (by decide) (by rfl) (pa_cons (pv 0) (pa_cons (pv 1) (pa_cons pe_int pa_nil)))))
      (pss_cons (ps_if (pt_cmpR op_gt (pe_cl c2 hr (by decide) (by rfl) (pa_cons (pv 0) (pa_cons pe_int pa_nil))) pe_int (nomark _)) (pss_cons (ps_set (i := 2) scLft.nd rfl (by first | exact .inl rfl | exact .inr rfl) (pe_op op_cat (pe_lc (own := [("_law_item", 4)]) (g := gName 4)   rfl scLft.nd (pi_list (pv 2)) (blkOk_by (N := lftN) (sc := defScope sLft) (by decide +kernel)) (fun _ _ _ _ _ => pg_name (i := 4) scLft.nd rfl (Or.inl rfl)) (fun _ _ _ _ _ => pts_one (pt_cmpR op_eq (pe_callB call_len_str (by rfl) m_len PySem.boot_len (pa_cons (pv 4) pa_nil)) pe_int (nomark _))) (fun _ _ _ _ _ => (pv 4))) (pe_lst (pa_cons (pe_cl c3 hr (by decide) (by rfl) (pa_cons (pv 0) (pa_cons (pv 1) pa_nil))) pa_nil))))
      (pss_cons (ps_set (i := 3) scLft.nd rfl (by first | exact .inl rfl | exact .inr rfl) (pe_cl c2 hr (by decide) (by rfl) (pa_cons (pv 0) (pa_cons (pe_callB (callLenC (K := K) rfl) (by rfl) m_len PySem.boot_len (pa_cons (pv 2) pa_nil)) pa_nil))))
      (pss_one (ps_set (i := 2) scLft.nd rfl (by first | exact .inl rfl | exact .inr rfl) (pe_op op_cat (pe_slice sl_list (pv 2) (po_some (pv 3)) po_none) (pe_slice sl_list (pv 2) po_none (po_some (pv 3)))))))) pss_nil)
      (pss_one (ps_ret (pe_cl c4 hr (by decide) (by rfl) (pa_cons (pv 1) (pa_cons (pv 2) pa_nil))))))), ?_⟩
    obtain ⟨xr, er⟩ := R.ex
    refine ⟨_, rfl, _, rfl, r, gs, 2, rfl, hg, by decide, by decide, R, fun H1 p its g1 np hp hR hl => ?_⟩
    try dsimp only [gName, tSeq, tAsg, List.set_cons_zero, List.set_cons_succ]
    have hpr : p ≠ r := (ne_of_none er np).symm
    have hl : its.length ≤ 2 := by omega
    refine ⟨_, rfl, r, 3, rfl, by decide, by decide, g1.rng, fun H2 d g2 d0 d3 => ?_⟩
    have hp2 := g2.1 _ _ hpr hp
    have gA := g1.trans g2
    refine ⟨_, _, rfl, rfl, _, rfl, ?_⟩
    by_cases hd : 0 < d
    rotate_left
    · rw [decide_eq_false hd]
      refine iteF ⟨_, rfl, _, rfl, gs, p, its, rfl, hg, hR, by omega, sqL hp2, fun H3 s3 => ?_⟩
      exact q _ _ (gA.same s3) ⟨its, hR, by omega, rfl⟩
    rw [decide_eq_true hd]
    refine iteT ⟨_, rfl, p, rfl, ⟨_, sqL hp2⟩, fun D nD => ?_⟩
    refine lc_pick (walk_list (K := K) (a := p) (xs := its.map tx)) nD (by rw [List.length_map]; omega) (fun H' s => sqL (s _ _ hp2)) (fun v => (fun w : List Nat => decide (w.length = 1)) (unT v)) ?_ ?_
    · intro j v H13 kk N hv s13 kt kf
      obtain ⟨wd, hwd, rfl⟩ := get_tx hv
      have wl := row_len hg hR wd (List.mem_of_getElem? hwd)
      refine ⟨rfl, _, rfl, S wd, rfl, small (by rw [S_len]; omega), rfl, _, rfl, ?_⟩
      have el : decide (V.int (((S wd).length : Nat) : Int) = V.int 1) = (fun w : List Nat => decide (w.length = 1)) (unT (V.str (S wd))) := by
        show _ = decide (wd.length = 1)
        rw [S_len]
        by_cases h : wd.length = 1
        · rw [decide_eq_true h, h]; rfl
        · rw [decide_eq_false h]
          exact decide_eq_false fun e => h (by injection e with e; omega)
      rw [el]
      cases eh : (fun w : List Nat => decide (w.length = 1)) (unT (V.str (S wd))) with
      | true => exact iteT ⟨_, rfl, kt eh⟩
      | false => exact iteF (kf eh)
    intro H3 s3 hD
    rw [filter_tx (p := fun w : List Nat => decide (w.length = 1))] at hD
    obtain ⟨js, ejs⟩ : ∃ js, js = its.filter (fun w : List Nat => decide (w.length = 1)) := ⟨_, rfl⟩
    rw [← ejs] at hD
    have jR : Row gs js := fun y hy => hR y (by rw [ejs] at hy; exact (List.mem_filter.mp hy).1)
    have jl : js.length ≤ 2 := by rw [ejs]; exact Nat.le_trans (List.length_filter_le ..) hl
    have gB := gA.same s3
    have hDr : D ≠ r := by
      obtain ⟨xr, er⟩ := gA.rng.ex
      exact (ne_of_none er nD).symm
    refine ⟨_, rfl, _, rfl, r, gs, rfl, by have := hg.hi; omega, gB.rng, fun H4 t g4 pt => ⟨by show 1 ≤ sizeLine; rw [sizeLine_eq]; decide, fun L nL => ?_⟩⟩
    have hD4 := g4.1 _ _ hDr hD
    have sL := same_new (o := .lst [tx t]) nL
    have gC := (gB.trans g4).same sL
    refine ⟨D, L, js.map tx, [tx t], rfl, rfl, sL _ _ hD4, upd_same, by rw [List.length_map]; exact small (by show js.length + 1 ≤ 1000; omega), fun A1 nA => ?_⟩
    have eA : js.map tx ++ [tx t] = (js ++ [t]).map tx := by rw [List.map_append]; rfl
    rw [eA]
    have sA := same_new (o := .lst ((js ++ [t]).map tx)) nA
    have gD := gC.same sA
    have hA : upd (upd H4 L (.lst [tx t])) A1 (.lst ((js ++ [t]).map tx)) A1 = some (.lst ((js ++ [t]).map tx)) := upd_same
    have hAr : A1 ≠ r := by
      obtain ⟨xr, er⟩ := gC.rng.ex
      exact (ne_of_none er nA).symm
    generalize upd (upd H4 L (.lst [tx t])) A1 (.lst ((js ++ [t]).map tx)) = H5 at sA gD hA ⊢
    have tR : Row gs (js ++ [t]) := fun y hy => by
      rcases List.mem_append.mp hy with h | h
      · exact jR y h
      · rw [List.mem_singleton.mp h]; exact .inr pt
    try dsimp only [gName, tSeq, tAsg, List.set_cons_zero, List.set_cons_succ]
    refine ⟨_, rfl, _, rfl, A1, _, rfl, .inl (sqL hA), ?_⟩
    refine ⟨r, _, rfl, by simp only [List.length_map, List.length_append, List.length_cons, List.length_nil]; omega, by simp only [List.length_map, List.length_append, List.length_cons, List.length_nil]; omega, gD.rng, fun H6 e g6 e0 e1 => ?_⟩
    have hA6 := g6.1 _ _ hAr hA
    obtain ⟨en, rfl⟩ := Int.eq_ofNat_of_zero_le e0
    have e1 : en < (js ++ [t]).length := by rw [List.length_map] at e1; omega
    refine ⟨_, rfl, _, rfl, _, rfl, A1, _, rfl, sqL hA6, fun B1 nB1 => ?_⟩
    obtain ⟨j1, c1', c2', c3'⟩ := cut_rowL tR (some (en : Int)) none
    obtain ⟨j2, d1', d2', d3'⟩ := cut_rowL tR none (some (en : Int))
    have two := cut_two (xs := (js ++ [t]).map tx) (d := en) (by rw [List.length_map]; omega)
    rw [c1', d1', List.length_map, List.length_map, List.length_map, List.length_append] at two
    rw [c1']
    have sB1 := same_new (o := .lst (j1.map tx)) nB1
    refine ⟨_, rfl, _, rfl, _, rfl, A1, _, rfl, sqL (sB1 _ _ hA6), fun B2 nB2 => ?_⟩
    rw [d1']
    have sB2 := same_new (o := .lst (j2.map tx)) nB2
    have hB1 := sB2 _ _ (upd_same (H := H6) (a := B1) (o := .lst (j1.map tx)))
    refine ⟨B1, B2, _, _, rfl, rfl, hB1, upd_same, by rw [List.length_map, List.length_map]; exact small (by simp at two; omega), fun A2 nA2 => ?_⟩
    have eB : j1.map tx ++ j2.map tx = (j1 ++ j2).map tx := by rw [List.map_append]
    rw [eB]
    have sA2 := same_new (o := .lst ((j1 ++ j2).map tx)) nA2
    have fl : (j1 ++ j2).length ≤ 3 := by rw [List.length_append]; simp at two; omega
    have fR : Row gs (j1 ++ j2) := fun y hy => (List.mem_append.mp hy).elim (c2' y) (d2' y)
    refine ⟨_, rfl, _, rfl, gs, A2, j1 ++ j2, rfl, hg, fR, by omega, sqL upd_same, fun H7 s7 => ?_⟩
    exact q _ _ ((((gD.trans g6).same sB1).same sB2).same (sA2.trans s7)) ⟨j1 ++ j2, fR, fl, rfl⟩
end
end Own

namespace Own
open PySem PySem.Spec PyProof.Rows L2 SX RZ
section
variable {P : Program} {w : World} {K : PySem.W.Frag} {mg : Str → Option Value} {base : Heap}
/-- the conditions of the law's own light kind -/
inductive OkA (gs : List Nat) : Cnd.Cd → Prop
  | mat1 {c : Nat} : c ∈ gs → OkA gs (.mat [c, 46, 42])
  | mat2 {c : Nat} : c ∈ gs → OkA gs (.mat [46, 42, c])
  | len {r m : Nat} : r < m → m ≤ 60 → OkA gs (.len r m)
  | tpl {k : Nat} {a b x y : List Nat} : k ≤ 3 → Its_ gs 2 x → Its_ gs 2 y → OkA gs (.tpl k a b x y)
theorem OkA.r {gs : List Nat} : ∀ {c : Cnd.Cd}, OkA gs c → OkR gs c
  | _, .mat1 h => .mat ⟨.sym _ false (.sym 46 true .nil), ⟨.inl h, .inr rfl, True.intro⟩, rfl⟩ (by show 3 ≤ 100; decide)
  | _, .mat2 h => .mat ⟨.sym 46 true (.sym _ false .nil), ⟨.inr rfl, .inl h, True.intro⟩, rfl⟩ (by show 3 ≤ 100; decide)
  | _, .len a b => .len a b
  | _, .tpl a b c => .tpl a b c
def spLli : Sp := fun vs H Q _ => ∃ (r : Addr) (gs : List Nat), vs = [.ref r, tx gs] ∧ Good gs ∧ Rng H r ∧ ∀ H' v c, Go r H H' → CdH H' c v → OkA gs c → Q v H'
theorem kAsg {te : TE} {σ : L2.St} {H : Hp} {k0 : VK} (Pk : V → Hp → Prop) (h : ∀ k : VK, (∀ v H', Pk v H' → k v H') → te σ H k) (q : ∀ v H', Pk v H' → k0 v H') : te σ H k0 := h _ q
abbrev sLli : Stmt := topS 89
abbrev lliN : List Str := ["_law_rng", "_law_signs", "_law_way", "_law_sign", "_law_mine", "_law_modulus", "_law_one", "_law_two"]
theorem scLli : FnScope lliN ["_law_rng", "_law_signs"] (defScope sLli) := ⟨rfl, rfl, rfl, by decide +kernel, rfl, by decide +kernel, by decide +kernel⟩
theorem ok_lli {f : Addr} {fd : FuncData} (F : Fun K "_law_light" "_law_light" sLli f fd) {f1 : Addr} {fd1 : FuncData} (c1 : Cl P w K mg base "_law_draw" 1 ["_law_rng", "_law_sides"] spDraw f1 fd1) {f2 : Addr} {fd2 : FuncData} (c2 : Cl P w K mg base "_law_pick" 2 ["_law_rng", "_law_things"] (spPick K) f2 fd2) {f3 : Addr} {fd3 : FuncData} (c3 : Cl P w K mg base "_law_turn" 2 ["_law_rng", "_law_signs"] spTurn f3 fd3) {f4 : Addr} {fd4 : FuncData} (c4 : Cl P w K mg base "_law_text" 1 ["_law_signs", "_law_items_here"] (spLx K) f4 fd4) :
    FnOk P w K mg base CX0 3 f fd ["_law_rng", "_law_signs"] spLli := by
  refine F.ok scLli (fun vs H Q E h => ?_) (fun cdv A outer s H vs Q E hr h => ?_)
  · obtain ⟨r, gs, rfl, _⟩ := h
    rfl
  · obtain ⟨r, gs, rfl, hg, R, q⟩ := h
    refine ⟨_, (pss_cons (ps_par3 (i := 2) (j := 3) (l := 4) (by rfl) scLli.nd rfl rfl rfl (by decide) (by decide) (by decide) rfl rfl rfl (pa_cons (pe_cl c1 hr (by decide) (by rfl) (pa_cons (pv 0) (pa_cons pe_int pa_nil))) (pa_cons (pe_cl c2 hr (by decide) (by rfl) (pa_cons (pv 0) (pa_cons (pv 1) pa_nil))) (pa_cons (pe_cl c3 hr (by decide) (by rfl) (pa_cons (pv 0) (pa_cons (pv 1) pa_nil))) pa_nil))) (by rfl))
      (pss_cons (ps_if (pt_cmpR op_eq (pv 2) pe_int (nomark _)) (pss_one (ps_ret (pe_tup (pa_cons pe_str (pa_cons (pe_cl c2 hr (by decide) (by rfl) (pa_cons (pv 0) (pa_cons (pe_lst (pa_cons (pe_op op_add_str (pv 3) pe_str) (pa_cons (pe_op op_add_str pe_str (pv 3)) pa_nil))) pa_nil))) pa_nil))))) pss_nil)
      (pss_cons (ps_if (pt_cmpR op_eq (pv 2) pe_int (nomark _)) (pss_cons (ps_set (i := 5) scLli.nd rfl (by first | exact .inl rfl | exact .inr rfl) (pe_op op_add pe_int (pe_cl c1 hr (by decide) (by rfl) (pa_cons (pv 0) (pa_cons pe_int pa_nil)))))
      (pss_one (ps_ret (pe_tup (pa_cons pe_str (pa_cons (pe_cl c1 hr (by decide) (by rfl) (pa_cons (pv 0) (pa_cons (pv 5) pa_nil))) (pa_cons (pv 5) pa_nil))))))) pss_nil)
      (pss_cons (ps_set (i := 6) scLli.nd rfl (by first | exact .inl rfl | exact .inr rfl) (pe_ifExp (pt_cmpR op_eq (pe_cl c1 hr (by decide) (by rfl) (pa_cons (pv 0) (pa_cons pe_int pa_nil))) pe_int (nomark _)) (pe_lst (pa_cons (pv 1) (pa_cons (pv 3) pa_nil))) (pe_lst (pa_cons (pv 1) pa_nil))))
      (pss_cons (ps_set (i := 7) scLli.nd rfl (by first | exact .inl rfl | exact .inr rfl) (pe_ifExp (pt_cmpR op_eq (pe_cl c1 hr (by decide) (by rfl) (pa_cons (pv 0) (pa_cons pe_int pa_nil))) pe_int (nomark _)) (pe_lst (pa_cons (pv 3) (pa_cons (pv 4) pa_nil))) (pe_lst (pa_cons (pe_cl c2 hr (by decide) (by rfl) (pa_cons (pv 0) (pa_cons (pv 1) pa_nil))) pa_nil))))
      (pss_one (ps_ret (pe_tup (pa_cons (pe_ix (ixL (K := K) rfl) (pe_lst (pa_cons pe_str (pa_cons pe_str (pa_cons pe_str (pa_cons pe_str pa_nil))))) (pe_op op_sub (pv 2) pe_int) (fun _ _ => rfl)) (pa_cons (pe_cl c4 hr (by decide) (by rfl) (pa_cons (pv 1) (pa_cons (pv 6) pa_nil))) (pa_cons (pe_cl c4 hr (by decide) (by rfl) (pa_cons (pv 1) (pa_cons (pv 7) pa_nil))) pa_nil))))))))))), ?_⟩
    have sz : ∀ n : Nat, n ≤ 2000 → n ≤ sizeLine := fun n hn => by rw [sizeLine_eq]; omega
    have hlo := hg.lo
    have hhi := hg.hi
    refine ⟨_, rfl, r, 6, rfl, by decide, by decide, R, fun H1 w g1 w0 w6 => ?_⟩
    refine ⟨_, rfl, _, rfl, r, _, rfl, g1.rng, .inr ⟨gs, rfl, by omega, by omega, fun H2 c g2 hc => ?_⟩⟩
    refine ⟨_, rfl, _, rfl, r, gs, rfl, by omega, (g1.trans g2).rng, fun H3 t g3 pt => ?_⟩
    have gA := (g1.trans g2).trans g3
    refine ⟨_, _, _, rfl, ?_⟩
    try dsimp only [gName, tSeq, tAsg, List.set_cons_zero, List.set_cons_succ]
    refine ⟨_, rfl, rfl, _, rfl, ?_⟩
    have ne : ∀ {H' : Hp} {L : Addr}, Go r H H' → H' L = none → L ≠ r := fun g nL => by
      obtain ⟨xr, er⟩ := g.rng.ex
      exact (ne_of_none er nL).symm
    by_cases h0 : w = 0
    · subst h0
      rw [decide_eq_true rfl]
      refine iteT ?_
      rw [show Str.ofString ".*" = S [46, 42] from rfl]
      refine ⟨_, rfl, _, rfl, _, _, rfl, rfl, by rw [S_len, S_len]; exact sz _ (by show 3 ≤ 2000; decide), _, rfl, _, _, rfl, rfl, by rw [S_len, S_len]; exact sz _ (by show 3 ≤ 2000; decide), by show 2 ≤ sizeLine; exact sz _ (by decide), fun L nL => ?_⟩
      have sL := same_new (o := .lst [V.str (S [c] ++ S [46, 42]), V.str (S [46, 42] ++ S [c])]) nL
      refine ⟨r, _, rfl, gA.rng.same sL, .inl ⟨L, _, rfl, ne gA nL, sqL upd_same, Nat.succ_pos _, by show 2 ≤ 1000; decide, fun H4 v g4 hv => ⟨by show 2 ≤ sizeLine; exact sz _ (by decide), fun T nT => ?_⟩⟩⟩
      have gB := (gA.same sL).trans g4
      have fin : ∀ p : List Nat, v = tx p → OkA gs (.mat p) → Q (.ref T) (upd H4 T (.tup [V.str (Str.ofString "match"), v])) := fun p e hx => by
        subst e
        exact q _ (.ref T) (.mat p) (gB.same (same_new nT)) ⟨T, rfl, upd_same⟩ hx
      simp only [List.mem_cons, List.not_mem_nil, or_false] at hv
      rcases hv with rfl | rfl
      · exact fin [c, 46, 42] (by rw [S_cat]; rfl) (.mat1 hc)
      · exact fin [46, 42, c] (by rw [S_cat]; rfl) (.mat2 hc)
    rw [decide_eq_false (fun e => h0 (V.int.inj e))]
    refine iteF ⟨_, rfl, rfl, _, rfl, ?_⟩
    by_cases h1 : w = 1
    · subst h1
      rw [decide_eq_true rfl]
      refine iteT ?_
      refine ⟨_, rfl, r, 3, rfl, by decide, by decide, gA.rng, fun H4 m g4 m0 m3 => ⟨_, _, rfl, rfl, ?_⟩⟩
      obtain ⟨mn, rfl⟩ := Int.eq_ofNat_of_zero_le m0
      try dsimp only [gName, tSeq, tAsg, List.set_cons_zero, List.set_cons_succ]
      refine ⟨_, rfl, _, rfl, r, _, rfl, by omega, by omega, (gA.trans g4).rng, fun H5 k g5 k0 k1 => ?_⟩
      obtain ⟨kn, rfl⟩ := Int.eq_ofNat_of_zero_le k0
      refine ⟨_, rfl, by show 3 ≤ sizeLine; exact sz _ (by decide), fun T nT => ?_⟩
      have em : V.int (1 + (mn : Int)) = iv (1 + mn) := by show _ = V.int ((1 + mn : Nat) : Int); rw [Int.natCast_add]; rfl
      rw [em]
      exact q _ (.ref T) (.len kn (1 + mn)) (((gA.trans g4).trans g5).same (same_new nT)) ⟨T, rfl, upd_same⟩ (.len (by omega) (by omega))
    rw [decide_eq_false (fun e => h1 (V.int.inj e))]
    refine iteF ?_
    obtain ⟨k, hk, rfl⟩ : ∃ k : Nat, k ≤ 3 ∧ w = (k : Int) + 2 := ⟨(w - 2).toNat, by omega, by omega⟩
    have rgs : Row gs [gs] := fun y hy => by rw [List.mem_singleton.mp hy]; exact .inr (List.Perm.refl _)
    have rc : ∀ d ∈ gs, ∀ y ∈ [[d]], (∃ c, c ∈ gs ∧ y = [c]) ∨ y.Perm gs := fun d hd y hy => by rw [List.mem_singleton.mp hy]; exact .inl ⟨d, hd, rfl⟩
    have Lst : ∀ (H' : Hp) (L : Addr) (i : List (List Nat)), Go r H H' → H' L = none → Row gs i → i.length ≤ 2 → Go r H (upd H' L (.lst (i.map tx))) ∧ L ≠ r ∧ upd H' L (.lst (i.map tx)) L = some (.lst (i.map tx)) := fun H' L i g nL _ _ => ⟨g.same (same_new nL), ne g nL, upd_same⟩
    have mk1 : ∀ (H' : Hp) (xs : List V) (i : List (List Nat)) (kq : VK) (C : Prop), Go r H H' → xs = i.map tx → Row gs i → i.length ≤ 2 → (∀ v H'', (∃ L i, v = .ref L ∧ Go r H H'' ∧ L ≠ r ∧ H'' L = some (.lst (i.map tx)) ∧ Row gs i ∧ i.length ≤ 2) → kq v H'') → xs.length ≤ sizeLine ∧ ∀ L, H' L = none → kq (.ref L) (upd H' L (.lst xs)) := fun H' xs i kq _ g e hr hl hkq => by
      subst e
      refine ⟨by rw [List.length_map]; exact sz _ (by omega), fun L nL => hkq _ _ ?_⟩
      exact ⟨L, i, rfl, g.same (same_new nL), ne g nL, upd_same, hr, hl⟩
    dsimp only [tNext, tSeq, tAsg, gName, List.set_cons_zero, List.set_cons_succ]
    refine kAsg (te := tIf _ _ _) (fun v H' => ∃ L i, v = .ref L ∧ Go r H H' ∧ L ≠ r ∧ H' L = some (.lst (i.map tx)) ∧ Row gs i ∧ i.length ≤ 2) ?_ ?_
    · intro kq hkq
      refine ⟨_, rfl, r, 2, rfl, by decide, by decide, gA.rng, fun H4 d g4 d0 d2 => ⟨rfl, _, rfl, ?_⟩⟩
      have gB := gA.trans g4
      by_cases hd : d = 0
      · subst hd
        rw [decide_eq_true rfl]
        exact ⟨_, rfl, _, rfl, mk1 H4 _ [gs, [c]] kq True gB rfl (fun y hy => by
          simp only [List.mem_cons, List.not_mem_nil, or_false] at hy
          rcases hy with rfl | rfl
          · exact .inr (List.Perm.refl _)
          · exact .inl ⟨c, hc, rfl⟩) (Nat.le_refl 2) hkq⟩
      · rw [decide_eq_false (fun e => hd (V.int.inj e))]
        exact ⟨_, rfl, mk1 H4 _ [gs] kq True gB rfl rgs (by show 1 ≤ 2; omega) hkq⟩
    rintro v1 H5 ⟨L1, i1, rfl, g5, n1, hL1, r1, l1⟩
    refine kAsg (te := tIf _ _ _) (fun v H' => ∃ L i, v = .ref L ∧ Go r H H' ∧ L ≠ r ∧ H' L = some (.lst (i.map tx)) ∧ Row gs i ∧ i.length ≤ 2 ∧ H' L1 = some (.lst (i1.map tx))) ?_ ?_
    · intro kq hkq
      refine ⟨_, rfl, r, 2, rfl, by decide, by decide, g5.rng, fun H6 d g6 d0 d2 => ⟨rfl, _, rfl, ?_⟩⟩
      have gB := g5.trans g6
      have hL6 := g6.1 _ _ n1 hL1
      by_cases hd : d = 0
      · subst hd
        rw [decide_eq_true rfl]
        refine ⟨_, rfl, _, rfl, by show 2 ≤ sizeLine; exact sz _ (by decide), fun L nL => hkq _ _ ?_⟩
        refine ⟨L, [[c], t], rfl, gB.same (same_new nL), ne gB nL, upd_same, (fun y hy => ?_), Nat.le_refl 2, same_new nL _ _ hL6⟩
        simp only [List.mem_cons, List.not_mem_nil, or_false] at hy
        rcases hy with rfl | rfl
        · exact .inl ⟨c, hc, rfl⟩
        · exact .inr pt
      · rw [decide_eq_false (fun e => hd (V.int.inj e))]
        refine ⟨_, rfl, _, rfl, r, _, rfl, gB.rng, .inr ⟨gs, rfl, by omega, by omega, fun H7 e g7 he => ?_⟩⟩
        have gC := gB.trans g7
        refine ⟨by show 1 ≤ sizeLine; exact sz _ (by decide), fun L nL => hkq _ _ ?_⟩
        exact ⟨L, [[e]], rfl, gC.same (same_new nL), ne gC nL, upd_same, (fun y hy => by rw [List.mem_singleton.mp hy]; exact .inl ⟨e, he, rfl⟩), by show 1 ≤ 2; omega, same_new nL _ _ (g7.1 _ _ n1 hL6)⟩
    rintro v2 H8 ⟨L2, i2, rfl, g8, n2, hL2, r2, l2, hL1⟩
    try dsimp only [gName, tSeq, tAsg, List.set_cons_zero, List.set_cons_succ]
    refine ⟨by show 4 ≤ sizeLine; exact sz _ (by decide), fun A1 nA => ?_⟩
    have sA := same_new (o := .lst [V.str (Str.ofString "same"), .str (Str.ofString "begins"), .str (Str.ofString "ends"), .str (Str.ofString "less")]) nA
    have hkk : ([V.str (Str.ofString "same"), .str (Str.ofString "begins"), .str (Str.ofString "ends"), .str (Str.ofString "less")])[k]? = some (.str (kwS k)) := by
      have : k = 0 ∨ k = 1 ∨ k = 2 ∨ k = 3 := by omega
      rcases this with rfl | rfl | rfl | rfl <;> rfl
    refine ⟨_, rfl, _, _, rfl, rfl, ?_⟩
    show rIxL K (V.ref A1) (V.int ((k : Int) + 2 - 2)) _ _
    rw [show (k : Int) + 2 - 2 = (k : Int) by omega]
    refine ixL_at (sqL upd_same) hkk ?_
    have hL1' := sA _ _ hL1
    have hL2' := sA _ _ hL2
    have gD := g8.same sA
    refine ⟨_, rfl, _, rfl, gs, L1, i1, rfl, hg, r1, by omega, sqL hL1', fun H9 s9 => ?_⟩
    refine ⟨_, rfl, _, rfl, gs, L2, i2, rfl, hg, r2, by omega, sqL (s9 _ _ hL2'), fun H10 s10 => ?_⟩
    refine ⟨by show 3 ≤ sizeLine; exact sz _ (by decide), fun T nT => ?_⟩
    exact q _ (.ref T) (.tpl k [] [] (rTx gs i1) (rTx gs i2)) (gD.same ((s9.trans s10).trans (same_new nT))) ⟨T, rfl, upd_same⟩ (.tpl hk ⟨i1, r1, l1, rfl⟩ ⟨i2, r2, l2, rfl⟩)
end
end Own

namespace Own
open PySem PySem.Spec PyProof.Rows L2 SX RZ
section
variable {P : Program} {w : World} {K : PySem.W.Frag} {mg : Str → Option Value} {base : Heap}
theorem go_tup {H H' : Hp} {r : Addr} (R : Rng H r) (g : Go r H H') : ∀ a xs, H a = some (.tup xs) → H' a = some (.tup xs) := fun a xs z => g.1 _ _ (fun e => by
  obtain ⟨ys, er⟩ := R.ex
  rw [e, er] at z
  cases z) z
def appP : Prg.Pr → Prg.Pr → Prg.Pr
  | .nil, q => q
  | .leaf l r, q => .leaf l (appP r q)
  | .whil c p r, q => .whil c p (appP r q)
  | .cond c p1 p2 r, q => .cond c p1 p2 (appP r q)
/-- all conditions of a program keep A -/
def AllC (A : Cnd.Cd → Prop) : Prg.Pr → Prop
  | .nil => True
  | .leaf _ r => AllC A r
  | .whil c p r => A c ∧ AllC A p ∧ AllC A r
  | .cond c p q r => A c ∧ AllC A p ∧ AllC A q ∧ AllC A r
theorem allC_app {A : Cnd.Cd → Prop} {q : Prg.Pr} (hq : AllC A q) : ∀ {p : Prg.Pr}, AllC A p → AllC A (appP p q)
  | .nil, _ => hq
  | .leaf l r, h => allC_app (p := r) hq h
  | .whil c p r, ⟨a, b, d⟩ => ⟨a, b, allC_app hq d⟩
  | .cond c p1 p2 r, ⟨a, b, d, e⟩ => ⟨a, b, d, allC_app hq e⟩
theorem sq_app {H : Hp} {q : Prg.Pr} {ws : List V} (hq : SqH H q ws) : ∀ {p : Prg.Pr} {vs : List V}, SqH H p vs → SqH H (appP p q) (vs ++ ws)
  | .nil, _, h => by cases h; exact hq
  | .leaf l r, _, ⟨v, us, e, h, i⟩ => by subst e; exact ⟨v, us ++ ws, rfl, h, sq_app hq i⟩
  | .whil c p r, _, ⟨a, x, y, ys, us, e, h, hc, hp, hb, hr⟩ => by subst e; exact ⟨a, x, y, ys, us ++ ws, rfl, h, hc, hp, hb, sq_app hq hr⟩
  | .cond c p1 p2 r, _, ⟨a, x, y, z, ys, zs, us, e, h, hc, hp, hb, hp2, hb2, hr⟩ => by subst e; exact ⟨a, x, y, z, ys, zs, us ++ ws, rfl, h, hc, hp, hb, hp2, hb2, sq_app hq hr⟩
theorem okP_app {gs : List Nat} {q : Prg.Pr} (hq : OkP gs q) : ∀ {p : Prg.Pr}, OkP gs p → OkP gs (appP p q)
  | .nil, _ => hq
  | .leaf l r, ⟨a, b⟩ => ⟨a, okP_app hq b⟩
  | .whil c p r, ⟨a, b, d, e⟩ => ⟨a, b, d, okP_app hq e⟩
  | .cond c p1 p2 r, ⟨a, b, d, e, f, g⟩ => ⟨a, b, d, e, f, okP_app hq g⟩
theorem size_app {q : Prg.Pr} : ∀ {p : Prg.Pr}, Prg.size (appP p q) = Prg.size p + Prg.size q
  | .nil => by show Prg.size q = 0 + _; omega
  | .leaf l r => by show Prg.size (appP r q) + 1 = Prg.size r + 1 + _; rw [size_app (p := r)]; omega
  | .whil c p r => by show Prg.size p + Prg.size (appP r q) + 1 = Prg.size p + Prg.size r + 1 + _; rw [size_app (p := r)]; omega
  | .cond c p1 p2 r => by show Prg.size p1 + Prg.size p2 + Prg.size (appP r q) + 1 = Prg.size p1 + Prg.size p2 + Prg.size r + 1 + _; rw [size_app (p := r)]; omega
theorem sq_len {H : Hp} : ∀ {p : Prg.Pr} {vs : List V}, SqH H p vs → vs.length ≤ Prg.size p
  | .nil, _, h => by cases h; exact Nat.le_refl _
  | .leaf l r, _, ⟨v, us, e, h, i⟩ => by subst e; have := sq_len i; show us.length + 1 ≤ Prg.size r + 1; omega
  | .whil c p r, _, ⟨a, x, y, ys, us, e, h, hc, hp, hb, hr⟩ => by subst e; have := sq_len hr; show us.length + 1 ≤ Prg.size p + Prg.size r + 1; omega
  | .cond c p1 p2 r, _, ⟨a, x, y, z, ys, zs, us, e, h, hc, hp, hb, hp2, hb2, hr⟩ => by subst e; have := sq_len hr; show us.length + 1 ≤ Prg.size p1 + Prg.size p2 + Prg.size r + 1; omega
theorem sq_some {H : Hp} {p : Prg.Pr} {vs : List V} (h : SqH H p vs) (l : 0 < vs.length) : Prg.some? p = true := by
  cases p with
  | nil => cases h; exact absurd l (by decide)
  | _ => rfl
theorem sq_pos {H : Hp} {p : Prg.Pr} {vs : List V} (h : SqH H p vs) (l : Prg.some? p = true) : 0 < vs.length := by
  cases p with
  | nil => cases l
  | leaf l r => obtain ⟨v, us, e, _⟩ := h; subst e; exact Nat.succ_pos _
  | whil c p r => obtain ⟨a, x, y, ys, us, e, _⟩ := h; subst e; exact Nat.succ_pos _
  | cond c p1 p2 r => obtain ⟨a, x, y, z, ys, zs, us, e, _⟩ := h; subst e; exact Nat.succ_pos _
theorem sq_head {H : Hp} {p : Prg.Pr} {v : V} (h : SqH H p [v]) : ∃ a k xs, v = .ref a ∧ H a = some (.tup (.str k :: xs)) ∧ k ≠ Str.ofString "block" := by
  cases p with
  | nil => cases h
  | leaf l r =>
    obtain ⟨v, us, e, hl, _⟩ := h
    cases e
    cases l <;> (obtain ⟨a, rfl, ha⟩ := hl; exact ⟨a, _, _, rfl, ha, by decide +kernel⟩)
  | whil c p r => obtain ⟨a, x, y, ys, us, e, ha, _⟩ := h; cases e; exact ⟨a, _, _, rfl, ha, by decide +kernel⟩
  | cond c p1 p2 r => obtain ⟨a, x, y, z, ys, zs, us, e, ha, _⟩ := h; cases e; exact ⟨a, _, _, rfl, ha, by decide +kernel⟩
theorem LfH.go {H H' : Hp} {r : Addr} {p : Prg.Pr} {v : V} (h : PgH H p v) (R : Rng H r) (g : Go r H H') : PgH H' p v := h.keep (go_tup R g)
def spLpg (n : Nat) : Sp := fun vs H Q _ => ∃ (r CL : Addr) (gs : List Nat) (d : Nat) (cvs : List V), vs = [.ref r, tx gs, iv d, .ref CL] ∧ Good gs ∧ d < n ∧ n ≤ 4 ∧ CL ≠ r ∧ H CL = some (.lst cvs) ∧ 0 < cvs.length ∧ cvs.length ≤ 100 ∧ (∀ v ∈ cvs, ∃ c, CdH H c v ∧ OkA gs c) ∧ Rng H r ∧
  ∀ H' v p, Go r H H' → PgH H' p v → OkP gs p → AllC (OkA gs) p → Prg.some? p = true → Prg.size p ≤ 3 ^ d → Q v H'
abbrev sLpg : Stmt := topS 84
abbrev lpgN : List Str := ["_law_rng", "_law_signs", "_law_deep", "_law_conditions", "_law_way", "_law_one", "_law_found", "_law_k", "_law_part"]
theorem scLpg : FnScope lpgN ["_law_rng", "_law_signs", "_law_deep", "_law_conditions"] (defScope sLpg) := ⟨rfl, rfl, rfl, by decide +kernel, rfl, by decide +kernel, by decide +kernel⟩
theorem ok_lpg {f : Addr} {fd : FuncData} (F : Fun K "_law_program" "_law_program" sLpg f fd) (m_range : mg "range" = none) {n : Nat} {f1 : Addr} {fd1 : FuncData} (c1 : Cl P w K mg base "_law_draw" 1 ["_law_rng", "_law_sides"] spDraw f1 fd1) {f2 : Addr} {fd2 : FuncData} (c2 : Cl P w K mg base "_law_pick" 2 ["_law_rng", "_law_things"] (spPick K) f2 fd2) {f3 : Addr} {fd3 : FuncData} (c3 : Cl P w K mg base "_law_fill_text" 4 ["_law_rng", "_law_signs"] spLft f3 fd3) {f4 : Addr} {fd4 : FuncData} (c4 : Cl P w K mg base "_law_program" (n + 8) ["_law_rng", "_law_signs", "_law_deep", "_law_conditions"] (spLpg n) f4 fd4) :
    FnOk P w K mg base CX0 (n + 1 + 8) f fd ["_law_rng", "_law_signs", "_law_deep", "_law_conditions"] (spLpg (n + 1)) := by
  refine F.ok scLpg (fun vs H Q E h => ?_) (fun cdv A outer s H vs Q E hr h => ?_)
  · obtain ⟨r, CL, gs, d, cvs, rfl, _⟩ := h
    rfl
  · obtain ⟨r, CL, gs, d, cvs, rfl, hg, hd, hn, hCr, hCL, hc0, hc1, hcs, R, q⟩ := h
    refine ⟨_, (pss_cons (ps_set (i := 4) scLpg.nd rfl (by first | exact .inl rfl | exact .inr rfl) (pe_cl c1 hr (by omega) (by rfl) (pa_cons (pv 0) (pa_cons pe_int pa_nil))))
      (pss_cons (ps_if (PW.pt (pw_or (pt_cmpR op_eq (pv 2) pe_int (nomark _)) (pw_or1 (pt_cmpR op_lt (pv 4) pe_int (nomark _))))) (pss_one (ps_ret (pe_cl c2 hr (by omega) (by rfl) (pa_cons (pv 0) (pa_cons (pe_lst (pa_cons (pe_tup (pa_cons pe_str pa_nil)) (pa_cons (pe_tup (pa_cons pe_str (pa_cons pe_str pa_nil))) (pa_cons (pe_tup (pa_cons pe_str (pa_cons (pe_cl c3 hr (by omega) (by rfl) (pa_cons (pv 0) (pa_cons (pv 1) pa_nil))) pa_nil))) (pa_cons (pe_tup (pa_cons pe_str (pa_cons (pe_cl c3 hr (by omega) (by rfl) (pa_cons (pv 0) (pa_cons (pv 1) pa_nil))) pa_nil))) (pa_cons (pe_tup (pa_cons pe_str (pa_cons (pe_cl c3 hr (by omega) (by rfl) (pa_cons (pv 0) (pa_cons (pv 1) pa_nil))) pa_nil))) pa_nil)))))) pa_nil))))) pss_nil)
      (pss_cons (ps_if (pt_cmpR op_lt (pv 4) pe_int (nomark _)) (pss_cons (ps_set (i := 5) scLpg.nd rfl (by first | exact .inl rfl | exact .inr rfl) (pe_cl c4 hr (by omega) (by rfl) (pa_cons (pv 0) (pa_cons (pv 1) (pa_cons (pe_op op_sub (pv 2) pe_int) (pa_cons (pv 3) pa_nil))))))
      (pss_one (ps_ret (pe_tup (pa_cons pe_str (pa_cons (pe_cl c2 hr (by omega) (by rfl) (pa_cons (pv 0) (pa_cons (pv 3) pa_nil))) (pa_cons (pv 5) pa_nil))))))) pss_nil)
      (pss_cons (ps_if (pt_cmpR op_eq (pv 4) pe_int (nomark _)) (pss_cons (ps_set (i := 5) scLpg.nd rfl (by first | exact .inl rfl | exact .inr rfl) (pe_cl c4 hr (by omega) (by rfl) (pa_cons (pv 0) (pa_cons (pv 1) (pa_cons (pe_op op_sub (pv 2) pe_int) (pa_cons (pv 3) pa_nil))))))
      (pss_one (ps_ret (pe_tup (pa_cons pe_str (pa_cons (pe_cl c2 hr (by omega) (by rfl) (pa_cons (pv 0) (pa_cons (pv 3) pa_nil))) (pa_cons (pv 5) (pa_cons (pe_cl c4 hr (by omega) (by rfl) (pa_cons (pv 0) (pa_cons (pv 1) (pa_cons (pe_op op_sub (pv 2) pe_int) (pa_cons (pv 3) pa_nil))))) pa_nil)))))))) pss_nil)
      (pss_cons (ps_set (i := 6) scLpg.nd rfl (by first | exact .inl rfl | exact .inr rfl) (pe_tup (pa_cons pe_str pa_nil)))
      (pss_cons (ps_for PassesOwn.never rfl (pi_range1 rfl m_range (pa_cons (pe_op op_add pe_int (pe_cl c1 hr (by omega) (by rfl) (pa_cons (pv 0) (pa_cons pe_int pa_nil)))) pa_nil)) (pg_name (i := 7) scLpg.nd rfl (by first | exact .inl rfl | exact .inr rfl))
        (pss_cons (ps_set (i := 8) scLpg.nd rfl (by first | exact .inl rfl | exact .inr rfl) (pe_cl c4 hr (by omega) (by rfl) (pa_cons (pv 0) (pa_cons (pv 1) (pa_cons (pe_op op_sub (pv 2) pe_int) (pa_cons (pv 3) pa_nil))))))
      (pss_one (ps_set (i := 6) scLpg.nd rfl (by first | exact .inl rfl | exact .inr rfl) (pe_op op_catT (pv 6) (pe_ifExp (pt_cmpR op_eq (pe_ix (ixT (K := K) rfl) (pv 8) pe_int (fun _ _ => rfl)) pe_str (nomark _)) (pe_slice sl_tup (pv 8) (po_some pe_int) po_none) (pe_tup (pa_cons (pv 8) pa_nil))))))))
      (pss_one (ps_ret (pv 6))))))))), ?_⟩
    have sz : ∀ n : Nat, n ≤ 2000 → n ≤ sizeLine := fun n hn => by rw [sizeLine_eq]; omega
    have ne : ∀ {H' : Hp} {L : Addr}, Go r H H' → H' L = none → L ≠ r := fun g nL => by
      obtain ⟨xr, er⟩ := g.rng.ex
      exact (ne_of_none er nL).symm
    have hp0 : 1 ≤ 3 ^ d := Nat.one_le_pow _ _ (by decide)
    have hp3 : 3 ^ d ≤ 27 := Nat.le_trans (Nat.pow_le_pow_right (by decide) (show d ≤ 3 by omega)) (by decide)
    have leaf : ∀ (H' : Hp), Go r H H' → ∀ k : Value → Prop, True := fun _ _ _ => True.intro
    refine ⟨_, rfl, r, 8, rfl, by decide, by decide, R, fun H1 w g1 w0 w8 => ?_⟩
    try dsimp only [gName, tSeq, tAsg, List.set_cons_zero, List.set_cons_succ]
    have lf : ∀ (D : Ends) (one found kk part : Option V), D.rt = Q → tRet (tCall (spPick K) [] E0 (tCons (tVar 0) (tCons (tLst (tCons (tTup (tCons (tC (V.str (Str.ofString "skip"))) tNil)) (tCons (tTup (tCons (tC (V.str (Str.ofString "fail"))) (tCons (tC (V.str (Str.ofString "wrong"))) tNil))) (tCons (tTup (tCons (tC (V.str (Str.ofString "fill"))) (tCons (tCall spLft [] E0 (tCons (tVar 0) (tCons (tVar 1) tNil))) tNil))) (tCons (tTup (tCons (tC (V.str (Str.ofString "fill"))) (tCons (tCall spLft [] E0 (tCons (tVar 0) (tCons (tVar 1) tNil))) tNil))) (tCons (tTup (tCons (tC (V.str (Str.ofString "fill"))) (tCons (tCall spLft [] E0 (tCons (tVar 0) (tCons (tVar 1) tNil))) tNil))) tNil)))))) tNil))) D [some (.ref r), some (tx gs), some (iv d), some (.ref CL), some (.int w), one, found, kk, part] H1 := by
      rintro D one found kk part rfl
      refine ⟨_, rfl, by show 1 ≤ sizeLine; exact sz _ (by decide), fun T1 n1 => ?_⟩
      have s1 := same_new (o := .tup [V.str (Str.ofString "skip")]) n1
      have h1 : upd H1 T1 (.tup [V.str (Str.ofString "skip")]) T1 = some (.tup [V.str (Str.ofString "skip")]) := upd_same
      have gA := g1.same s1
      generalize upd H1 T1 (.tup [V.str (Str.ofString "skip")]) = H2 at s1 h1 gA ⊢
      refine ⟨by show 2 ≤ sizeLine; exact sz _ (by decide), fun T2 n2 => ?_⟩
      have s2 := same_new (o := .tup [V.str (Str.ofString "fail"), .str (Str.ofString "wrong")]) n2
      have h2 : upd H2 T2 (.tup [V.str (Str.ofString "fail"), .str (Str.ofString "wrong")]) T2 = some (.tup [V.str (Str.ofString "fail"), .str (Str.ofString "wrong")]) := upd_same
      have gB := gA.same s2
      have h1 := s2 _ _ h1
      generalize upd H2 T2 (.tup [V.str (Str.ofString "fail"), .str (Str.ofString "wrong")]) = H3 at s2 h1 h2 gB ⊢
      refine ⟨_, rfl, _, rfl, r, gs, rfl, hg, gB.rng, fun H4 x1 g4 i1 => ⟨by show 2 ≤ sizeLine; exact sz _ (by decide), fun T3 n3 => ?_⟩⟩
      have s3 := same_new (o := .tup [V.str (Str.ofString "fill"), tx x1]) n3
      have h3 : upd H4 T3 (.tup [V.str (Str.ofString "fill"), tx x1]) T3 = some (.tup [V.str (Str.ofString "fill"), tx x1]) := upd_same
      have h1 := s3 _ _ (go_tup gB.rng g4 _ _ h1)
      have h2 := s3 _ _ (go_tup gB.rng g4 _ _ h2)
      have gC := (gB.trans g4).same s3
      generalize upd H4 T3 (.tup [V.str (Str.ofString "fill"), tx x1]) = H5 at s3 h1 h2 h3 gC ⊢
      refine ⟨_, rfl, _, rfl, r, gs, rfl, hg, gC.rng, fun H6 x2 g6 i2 => ⟨by show 2 ≤ sizeLine; exact sz _ (by decide), fun T4 n4 => ?_⟩⟩
      have s4 := same_new (o := .tup [V.str (Str.ofString "fill"), tx x2]) n4
      have h4 : upd H6 T4 (.tup [V.str (Str.ofString "fill"), tx x2]) T4 = some (.tup [V.str (Str.ofString "fill"), tx x2]) := upd_same
      have h1 := s4 _ _ (go_tup gC.rng g6 _ _ h1)
      have h2 := s4 _ _ (go_tup gC.rng g6 _ _ h2)
      have h3 := s4 _ _ (go_tup gC.rng g6 _ _ h3)
      have gD := (gC.trans g6).same s4
      generalize upd H6 T4 (.tup [V.str (Str.ofString "fill"), tx x2]) = H7 at s4 h1 h2 h3 h4 gD ⊢
      refine ⟨_, rfl, _, rfl, r, gs, rfl, hg, gD.rng, fun H8 x3 g8 i3 => ⟨by show 2 ≤ sizeLine; exact sz _ (by decide), fun T5 n5 => ?_⟩⟩
      have s5 := same_new (o := .tup [V.str (Str.ofString "fill"), tx x3]) n5
      have h5 : upd H8 T5 (.tup [V.str (Str.ofString "fill"), tx x3]) T5 = some (.tup [V.str (Str.ofString "fill"), tx x3]) := upd_same
      have h1 := s5 _ _ (go_tup gD.rng g8 _ _ h1)
      have h2 := s5 _ _ (go_tup gD.rng g8 _ _ h2)
      have h3 := s5 _ _ (go_tup gD.rng g8 _ _ h3)
      have h4 := s5 _ _ (go_tup gD.rng g8 _ _ h4)
      have gE := (gD.trans g8).same s5
      generalize upd H8 T5 (.tup [V.str (Str.ofString "fill"), tx x3]) = H9 at s5 h1 h2 h3 h4 h5 gE ⊢
      refine ⟨by show 5 ≤ sizeLine; exact sz _ (by decide), fun L nL => ?_⟩
      have sL := same_new (o := .lst [V.ref T1, .ref T2, .ref T3, .ref T4, .ref T5]) nL
      refine ⟨r, _, rfl, (gE.same sL).rng, .inl ⟨L, _, rfl, ne gE nL, sqL upd_same, Nat.succ_pos _, by show 5 ≤ 1000; decide, fun H10 v g10 hv => ?_⟩⟩
      have k10 : ∀ a xs, H9 a = some (.tup xs) → H10 a = some (.tup xs) := fun a xs e => go_tup (gE.same sL).rng g10 _ _ (sL _ _ e)
      have gF := (gE.same sL).trans g10
      have fin : ∀ l, LfH H10 l v → okL gs l → D.rt v H10 := fun l hl ho => q _ v (.leaf l .nil) gF ⟨[v], ⟨v, [], rfl, hl, rfl⟩, .inl rfl⟩ ⟨ho, True.intro⟩ True.intro rfl (by show 0 + 1 ≤ _; omega)
      simp only [List.mem_cons, List.not_mem_nil, or_false] at hv
      rcases hv with rfl | rfl | rfl | rfl | rfl
      · exact fin .skip ⟨T1, rfl, k10 _ _ h1⟩ True.intro
      · exact fin (.fail [119, 114, 111, 110, 103]) ⟨T2, rfl, k10 _ _ h2⟩ True.intro
      · exact fin (.fill [] x1) ⟨T3, rfl, k10 _ _ h3⟩ i1
      · exact fin (.fill [] x2) ⟨T4, rfl, k10 _ _ h4⟩ i2
      · exact fin (.fill [] x3) ⟨T5, rfl, k10 _ _ h5⟩ i3
    have hvCs : ∀ {H' : Hp}, Go r H H' → H' CL = some (.lst cvs) ∧ ∀ v ∈ cvs, ∃ c, CdH H' c v ∧ OkA gs c := fun g => ⟨g.1 _ _ hCr hCL, fun v hv => let ⟨c, h1, h2⟩ := hcs v hv; ⟨c, h1.go R g, h2⟩⟩
    refine ⟨_, rfl, rfl, _, rfl, ?_⟩
    by_cases hd0 : d = 0
    · rw [decide_eq_true (show V.int ((d : Nat) : Int) = V.int 0 by rw [hd0]; rfl)]
      refine iteT (iteT ?_)
      exact lf _ _ _ _ _ rfl
    rw [decide_eq_false (show ¬ V.int ((d : Nat) : Int) = V.int 0 from fun e => hd0 (by have := V.int.inj e; omega))]
    refine iteF ⟨_, rfl, _, _, rfl, rfl, _, rfl, ?_⟩
    by_cases hw3 : w < 3
    · rw [decide_eq_true hw3]
      refine iteT ?_
      exact lf _ _ _ _ _ rfl
    rw [decide_eq_false hw3]
    refine iteF ?_
    have hpw : 3 ^ d = 3 * 3 ^ (d - 1) := by
      rw [show (3 : Nat) * 3 ^ (d - 1) = 3 ^ (d - 1) * 3 from Nat.mul_comm .., ← Nat.pow_succ, show (d - 1).succ = d by omega]
    have hp1 : 1 ≤ 3 ^ (d - 1) := Nat.one_le_pow _ _ (by decide)
    have hveq : [V.ref r, tx gs, V.int (((d : Nat) : Int) - 1), .ref CL] = [.ref r, tx gs, iv (d - 1), .ref CL] := by rw [show ((d : Nat) : Int) - 1 = ((d - 1 : Nat) : Int) by omega]
    have recC : ∀ {H' : Hp} (k : VK), Go r H H' → (∀ H'' v p, Go r H' H'' → PgH H'' p v → OkP gs p → AllC (OkA gs) p → Prg.some? p = true → Prg.size p ≤ 3 ^ (d - 1) → k v H'') → spLpg n [.ref r, tx gs, V.int (((d : Nat) : Int) - 1), .ref CL] H' k E0 := fun k g h => by
      obtain ⟨h1, h2⟩ := hvCs g
      exact ⟨r, CL, gs, d - 1, cvs, hveq, hg, by omega, by omega, hCr, h1, hc0, hc1, h2, g.rng, h⟩
    try dsimp only [gName, tSeq, tAsg, tNext, List.set_cons_zero, List.set_cons_succ]
    refine ⟨_, rfl, _, _, rfl, rfl, _, rfl, ?_⟩
    by_cases hw5 : w < 5
    · rw [decide_eq_true hw5]
      refine iteT ?_
      refine ⟨_, rfl, _, rfl, _, rfl, _, _, rfl, rfl, _, rfl, recC _ g1 fun H2 v p g2 hv ho ha hsm hz => ?_⟩
      have gA := g1.trans g2
      obtain ⟨hCL2, hcs2⟩ := hvCs gA
      refine ⟨_, rfl, _, rfl, r, _, rfl, gA.rng, .inl ⟨CL, cvs, rfl, hCr, sqL hCL2, hc0, by omega, fun H3 x g3 hx => ?_⟩⟩
      have gB := gA.trans g3
      obtain ⟨c, hcx, hoc⟩ := (hvCs gB).2 x hx
      refine ⟨_, rfl, by show 3 ≤ sizeLine; exact sz _ (by decide), fun T nT => ?_⟩
      have sT := same_new (o := .tup [V.str (Str.ofString "while"), x, v]) nT
      have hv3 := (LfH.go hv gA.rng g3).keep fun a xs e => sT _ _ e
      obtain ⟨ys, hq1, hq2⟩ := hv3
      exact q _ (.ref T) (.whil c p .nil) (gB.same sT) ⟨[.ref T], ⟨T, x, v, ys, [], rfl, upd_same, hcx.same sT, hq1, hq2, rfl⟩, .inl rfl⟩ ⟨hoc.r, hsm, ho, True.intro⟩ ⟨hoc, ha, True.intro⟩ rfl (by show Prg.size p + 0 + 1 ≤ _; omega)
    rw [decide_eq_false hw5]
    refine iteF ?_
    try dsimp only [gName, tSeq, tAsg, tNext, List.set_cons_zero, List.set_cons_succ]
    refine ⟨_, rfl, rfl, _, rfl, ?_⟩
    by_cases hw6 : w = 5
    · subst hw6
      rw [decide_eq_true rfl]
      refine iteT ?_
      refine ⟨_, rfl, _, rfl, _, rfl, _, _, rfl, rfl, _, rfl, recC _ g1 fun H2 v p g2 hv ho ha hsm hz => ?_⟩
      have gA := g1.trans g2
      obtain ⟨hCL2, hcs2⟩ := hvCs gA
      refine ⟨_, rfl, _, rfl, r, _, rfl, gA.rng, .inl ⟨CL, cvs, rfl, hCr, sqL hCL2, hc0, by omega, fun H3 x g3 hx => ?_⟩⟩
      have gB := gA.trans g3
      obtain ⟨c, hcx, hoc⟩ := (hvCs gB).2 x hx
      refine ⟨_, rfl, _, rfl, _, rfl, _, rfl, _, _, rfl, rfl, _, rfl, recC _ gB fun H4 v2 p2 g4 hv2 ho2 ha2 hsm2 hz2 => ?_⟩
      have gC := gB.trans g4
      refine ⟨by show 4 ≤ sizeLine; exact sz _ (by decide), fun T nT => ?_⟩
      have sT := same_new (o := .tup [V.str (Str.ofString "if"), x, v, v2]) nT
      have hv3 := (LfH.go (LfH.go hv gA.rng g3) gB.rng g4).keep fun a xs e => sT _ _ e
      have hv4 := hv2.keep fun a xs e => sT _ _ e
      obtain ⟨ys, hq1, hq2⟩ := hv3
      obtain ⟨zs, hq3, hq4⟩ := hv4
      exact q _ (.ref T) (.cond c p p2 .nil) (gC.same sT) ⟨[.ref T], ⟨T, x, v, v2, ys, zs, [], rfl, upd_same, (hcx.go gB.rng g4).same sT, hq1, hq2, hq3, hq4, rfl⟩, .inl rfl⟩ ⟨hoc.r, hsm, hsm2, ho, ho2, True.intro⟩ ⟨hoc, ha, ha2, True.intro⟩ rfl (by show Prg.size p + Prg.size p2 + 0 + 1 ≤ _; omega)
    rw [decide_eq_false (fun e => hw6 (V.int.inj e))]
    refine iteF ?_
    try dsimp only [gName, tSeq, tAsg, tNext, List.set_cons_zero, List.set_cons_succ]
    refine ⟨by show 1 ≤ sizeLine; exact sz _ (by decide), fun F0 nF => ?_⟩
    have sF := same_new (o := .tup [V.str (Str.ofString "block")]) nF
    have hF : upd H1 F0 (.tup [V.str (Str.ofString "block")]) F0 = some (.tup [V.str (Str.ofString "block")]) := upd_same
    have gF := g1.same sF
    generalize upd H1 F0 (.tup [V.str (Str.ofString "block")]) = H2 at sF hF gF ⊢
    refine ⟨_, rfl, r, 2, rfl, by decide, by decide, gF.rng, fun H3 k g3 k0 k1 => ⟨_, _, rfl, rfl, _, rfl, by omega, by omega, ?_⟩⟩
    obtain ⟨kn, rfl⟩ := Int.eq_ofNat_of_zero_le k0
    have gG := gF.trans g3
    have hF3 := go_tup gF.rng g3 _ _ hF
    rw [show ((2 : Int) + (kn : Int)).toNat = 2 + kn by omega]
    refine for_range (lo := 0) (n := 2 + kn)
      (fun i σ H' => ∃ v1 v2 T p vs', σ = [some (.ref r), some (tx gs), some (iv d), some (.ref CL), some (.int w), none, some (.ref T), v1, v2] ∧ Go r H H' ∧ H' T = some (.tup (.str (Str.ofString "block") :: vs')) ∧ SqH H' p vs' ∧ OkP gs p ∧ AllC (OkA gs) p ∧ Prg.size p ≤ i * 3 ^ (d - 1) ∧ i ≤ vs'.length)
      ⟨none, none, F0, .nil, [], rfl, gG, hF3, rfl, True.intro, True.intro, Nat.zero_le _, Nat.zero_le _⟩ ?_ ?_
    · rintro i σ H4 hi ⟨v1, v2, T, p, vs', rfl, g4, hT, hq, ho, ha, hz, hlen⟩
      try dsimp only [gName, tSeq, tAsg, tNext, List.set_cons_zero, List.set_cons_succ]
      refine ⟨_, rfl, _, rfl, _, rfl, _, _, rfl, rfl, _, rfl, recC _ g4 fun H5 v q2 g5 hv ho2 ha2 hsm2 hz2 => ?_⟩
      have gA := g4.trans g5
      have hT5 := go_tup g4.rng g5 _ _ hT
      have hq5 := hq.keep (go_tup g4.rng g5)
      obtain ⟨ys, hy, hb⟩ := hv
      have ypos := sq_pos hy hsm2
      have ylen := sq_len hy
      have vlen := sq_len hq
      have him : i * 3 ^ (d - 1) ≤ 3 * 9 := Nat.mul_le_mul (by omega) (by omega)
      refine ⟨_, rfl, ?_⟩
      refine kAsg (te := tIf _ _ _) (fun y H' => ∃ Y, y = .ref Y ∧ Same H5 H' ∧ H' Y = some (.tup ys)) ?_ ?_
      · intro kq hkq
        rcases hb with rfl | ⟨hl2, a, rfl, hA⟩
        · obtain ⟨a, kd, xs, rfl, ha, hk⟩ := sq_head hy
          refine ⟨_, rfl, a, _, 0, _, rfl, rfl, sqT ha, atI_nat (j := 0) rfl, rfl, _, rfl, ?_⟩
          rw [decide_eq_false (fun e => hk (V.str.inj e))]
          refine ⟨_, rfl, by show 1 ≤ sizeLine; exact sz _ (by decide), fun Y nY => hkq _ _ ⟨Y, rfl, same_new nY, upd_same⟩⟩
        · refine ⟨_, rfl, a, _, 0, _, rfl, rfl, sqT hA, atI_nat (j := 0) rfl, rfl, _, rfl, ?_⟩
          rw [decide_eq_true rfl]
          refine ⟨_, rfl, _, rfl, a, _, rfl, sqT hA, ?_, fun Y nY => ?_⟩
          · intro h
            have := h.1
            rw [show (some (1 : Int)) = some ((1 : Nat) : Int) from rfl, HT.sIx_nat, List.length_cons] at this
            omega
          rw [cut_tl]
          exact hkq _ _ ⟨Y, rfl, same_new nY, upd_same⟩
      rintro y H6 ⟨Y, rfl, s6, hY⟩
      have hT6 := s6 _ _ hT5
      refine ⟨T, Y, _, ys, rfl, rfl, sqT hT6, sqT hY, (fun z => nomatch z), by show vs'.length + 1 + ys.length ≤ sizeLine; exact sz _ (by omega), (fun z => absurd z (fun z => by rw [z] at ypos; exact absurd ypos (by decide))), fun _ U nU => ?_⟩
      have sU := same_new (o := .tup (.str (Str.ofString "block") :: vs' ++ ys)) nU
      have k5 : ∀ a xs, H5 a = some (.tup xs) → upd H6 U (.tup (.str (Str.ofString "block") :: vs' ++ ys)) a = some (.tup xs) := fun a xs e => sU _ _ (s6 _ _ e)
      refine ⟨_, _, U, appP p q2, vs' ++ ys, rfl, (gA.same s6).same sU, upd_same, sq_app (hy.keep k5) (hq5.keep k5), okP_app ho2 ho, allC_app ha2 ha, ?_, ?_⟩
      · rw [size_app, Nat.add_mul]; omega
      · rw [List.length_append]; omega
    · rintro σ H4 ⟨v1, v2, T, p, vs', rfl, g4, hT, hq, ho, ha, hz, hlen⟩
      refine ⟨_, rfl, q _ (.ref T) p g4 ⟨vs', hq, .inr ⟨by omega, T, rfl, hT⟩⟩ ho ha (sq_some hq (by omega)) ?_⟩
      rw [hpw]
      exact Nat.le_trans hz (Nat.mul_le_mul (by omega) (Nat.le_refl _))
theorem lpg_all {f f1 f2 f3 : Addr} {fd fd1 fd2 fd3 : FuncData} (F : Fun K "_law_program" "_law_program" sLpg f fd) (mr : mg "range" = none) (c1 : Cl P w K mg base "_law_draw" 1 ["_law_rng", "_law_sides"] spDraw f1 fd1) (c2 : Cl P w K mg base "_law_pick" 2 ["_law_rng", "_law_things"] (spPick K) f2 fd2) (c3 : Cl P w K mg base "_law_fill_text" 4 ["_law_rng", "_law_signs"] spLft f3 fd3) (b : Binds K fd ["_law_rng", "_law_signs", "_law_deep", "_law_conditions"] []) (g : mg "_law_program" = some (.ref f)) : ∀ n, FnOk P w K mg base CX0 (n + 8) f fd ["_law_rng", "_law_signs", "_law_deep", "_law_conditions"] (spLpg n)
  | 0 => ⟨fun vs H Q E h => (by obtain ⟨r, CL, gs, d, cvs, _, _, h, _⟩ := h; omega), fun A outer s H args us vs Q E _ _ _ _ h => (by obtain ⟨r, CL, gs, d, cvs, _, _, h, _⟩ := h; omega)⟩
  | n + 1 => ok_lpg F mr c1 c2 c3 ⟨lpg_all F mr c1 c2 c3 b g n, g, F.kp, b⟩
/-! ### runs go on as they should -/
theorem el_size : ∀ {p e : Prg.Pr}, e ∈ elems p → Prg.size e ≤ Prg.size p := by
  intro p
  induction p with
  | nil => intro e h; cases h
  | leaf l r ih =>
    intro e h
    rcases List.mem_cons.mp h with rfl | h
    · show 0 + 1 ≤ Prg.size r + 1; omega
    · exact Nat.le_trans (ih h) (by show Prg.size r ≤ Prg.size r + 1; omega)
  | whil c p r _ ih =>
    intro e h
    rcases List.mem_cons.mp h with rfl | h
    · show Prg.size p + 0 + 1 ≤ Prg.size p + Prg.size r + 1; omega
    · exact Nat.le_trans (ih h) (by show Prg.size r ≤ Prg.size p + Prg.size r + 1; omega)
  | cond c p q r _ _ ih =>
    intro e h
    rcases List.mem_cons.mp h with rfl | h
    · show Prg.size p + Prg.size q + 0 + 1 ≤ Prg.size p + Prg.size q + Prg.size r + 1; omega
    · exact Nat.le_trans (ih h) (by show Prg.size r ≤ Prg.size p + Prg.size q + Prg.size r + 1; omega)
theorem step_wf {gs : List Nat} (hg : Good gs) {s : RS} (h : GoS gs s) : WfS gs (stepS gs s) ∧ (stepS gs s).w.length ≤ 910 := by
  obtain ⟨ws, ks, f⟩ := s
  obtain ⟨⟨hm, ok⟩, hl, hf, hk⟩ := h
  cases hf
  cases ks with
  | nil => exact absurd rfl hk
  | cons p ks =>
    have hl : ws.length ≤ 300 := hl
    have hm : ∀ c ∈ ws, c ∈ gs := hm
    have okp := ok p (List.mem_cons_self ..)
    have okr : ∀ e ∈ elems p ++ ks, OkP gs e ∧ Prg.some? e = true ∧ Prg.size e ≤ 300 := fun e he => by
      rcases List.mem_append.mp he with h | h
      · exact ⟨(ok_elems okp.1 e h).1, (ok_elems okp.1 e h).2, Nat.le_trans (el_size h) okp.2.2⟩
      · exact ok e (List.mem_cons_of_mem _ h)
    unfold stepS
    dsimp only
    cases e : elems p ++ ks with
    | nil => exact ⟨⟨hm, fun _ h => nomatch h⟩, by show ws.length ≤ 910; omega⟩
    | cons x r =>
      rw [e] at okr
      have oke := okr x (List.mem_cons_self ..)
      have rest : ∀ y ∈ r, OkP gs y ∧ Prg.some? y = true ∧ Prg.size y ≤ 300 := fun y hy => okr y (List.mem_cons_of_mem _ hy)
      have l9 : ws.length ≤ 910 := by omega
      cases x with
      | nil => exact nomatch oke.2.1
      | leaf l rr =>
        cases l with
        | skip => exact ⟨⟨hm, rest⟩, l9⟩
        | fill a t =>
          obtain ⟨r1, r2, r3⟩ := its_spec (show Its_ gs 3 t from oke.1.1)
          refine ⟨⟨fill_mem hg r1 hm, rest⟩, ?_⟩
          show (fillL gs (itsOf gs 3 t) ws).length ≤ 910
          rw [fill_len hg r1]
          have := bl_lt (itsOf gs 3 t)
          have h2 : nBl (itsOf gs 3 t) * ws.length ≤ 3 * 300 := Nat.mul_le_mul (by omega) hl
          omega
        | fail n => exact ⟨⟨hm, fun _ h => nomatch h⟩, l9⟩
        | call n => exact oke.1.1.elim
      | whil c q rr =>
        obtain ⟨⟨okc, sq, okq, _⟩, _, sz⟩ := oke
        have sz : Prg.size q + Prg.size rr + 1 ≤ 300 := sz
        dsimp only
        split
        · refine ⟨⟨hm, fun y hy => ?_⟩, l9⟩
          rcases List.mem_cons.mp hy with rfl | hy
          · exact ⟨okq, sq, by omega⟩
          · rcases List.mem_cons.mp hy with rfl | hy
            · exact ⟨⟨okc, sq, okq, True.intro⟩, rfl, by show Prg.size q + 0 + 1 ≤ 300; omega⟩
            · exact rest y hy
        · exact ⟨⟨hm, rest⟩, l9⟩
      | cond c q1 q2 rr =>
        obtain ⟨⟨okc, s1, s2, ok1, ok2, _⟩, _, sz⟩ := oke
        have sz : Prg.size q1 + Prg.size q2 + Prg.size rr + 1 ≤ 300 := sz
        refine ⟨⟨hm, fun y hy => ?_⟩, l9⟩
        rcases List.mem_cons.mp hy with rfl | hy
        · split
          · exact ⟨ok1, s1, by omega⟩
          · exact ⟨ok2, s2, by omega⟩
        · exact rest y hy
end
end Own

namespace Own
open PySem PySem.Spec PyProof.Rows L2 SX RZ
section
variable {P : Program} {w : World} {K : PySem.W.Frag} {mg : Str → Option Value} {base : Heap}
theorem sg_red {σ : L2.St} {H : Hp} {Q : VK} {i k : Nat} {a : List Nat} (h : σ[i]? = some (some (tx (sgL a k)))) (q : Q (ltV a k) H) : tIf (tTest (tOp rNe (tVar i) (tC (V.str (Str.ofString ""))))) (tVar i) (tC V.non) σ H Q := by
  have o0 : Str.ofString "" = S [] := by decide +kernel
  unfold ltV at q
  cases hc : a[k]? with
  | none =>
    rw [hc] at q
    rw [sgL_none hc] at h
    refine ⟨_, h, rfl, false, ?_, iteF q⟩
    rw [o0, decide_eq_true rfl]
    rfl
  | some c =>
    rw [hc] at q
    rw [sgL_some hc] at h
    refine ⟨_, h, rfl, true, ?_, iteT ⟨_, h, q⟩⟩
    rw [o0, decide_eq_false (fun e => by cases S_inj (V.str.inj e))]
    rfl
abbrev sLOr : Stmt := topS 79
theorem scLOr : FnScope ["_law_signs", "_law_mine", "_law_yours", "_law_at", "_law_left", "_law_right"] ["_law_signs", "_law_mine", "_law_yours"] (defScope sLOr) := ⟨rfl, rfl, rfl, by decide +kernel, rfl, by decide +kernel, by decide +kernel⟩
theorem ok_lor {f : Addr} {fd : FuncData} (F : Fun K "_law_order" "_law_order" sLOr f fd) (ml : mg "len" = none) (mr : mg "range" = none) (mx : mg "max" = none) : FnOk P w K mg base CX0 1 f fd ["_law_signs", "_law_mine", "_law_yours"] spLOr := by
  refine F.ok scLOr (fun vs H Q E h => ?_) (fun cdv A outer s H vs Q E hr h => ?_)
  · obtain ⟨z, a, b, rfl, _⟩ := h
    rfl
  · obtain ⟨z, a, b, rfl, ha, hb, q0, q⟩ := h
    refine ⟨_, pss_cons (ps_for PassesOwn.never rfl (pi_range1 rfl mr (pa_cons (pe_callB (call_max2 rfl) (by rfl) mx (by decide +kernel) (pa_cons (pe_callB call_len_str (by rfl) ml PySem.boot_len (pa_cons (pv 1) pa_nil)) (pa_cons (pe_callB call_len_str (by rfl) ml PySem.boot_len (pa_cons (pv 2) pa_nil)) pa_nil))) pa_nil)) (pg_name (i := 3) scLOr.nd rfl (.inl rfl))
        (pss_cons (ps_par (i := 4) (j := 5) (by rfl) scLOr.nd rfl rfl (by decide) rfl rfl (pa_cons (pe_slice C8.sl_txt (pv 1) (po_some (pv 3)) (po_some (pe_op op_add (pv 3) pe_int))) (pa_cons (pe_slice C8.sl_txt (pv 2) (po_some (pv 3)) (po_some (pe_op op_add (pv 3) pe_int))) pa_nil)) (by rfl))
        (pss_one (ps_if (pt_cmpR op_ne (pv 4) (pv 5) (nomark _)) (pss_one (ps_ret (pe_tup (pa_cons (pv 3) (pa_cons (pe_ifExp (pt_cmpR op_ne (pv 4) pe_str (nomark _)) (pv 4) pe_non) (pa_cons (pe_ifExp (pt_cmpR op_ne (pv 5) pe_str (nomark _)) (pv 5) pe_non) pa_nil)))))) pss_nil))))
      (pss_one (ps_ret pe_non)), ?_⟩
    have za : (S a).length ≤ sizeLine := by rw [S_len]; exact small ha
    have zb : (S b).length ≤ sizeLine := by rw [S_len]; exact small hb
    have hle := cpl_le a b
    refine ⟨_, rfl, _, rfl, za, _, rfl, _, rfl, zb, _, _, rfl, ?_⟩
    rw [S_len, S_len]
    have em : (if ((b.length : Nat) : Int) > ((a.length : Nat) : Int) then ((b.length : Nat) : Int) else ((a.length : Nat) : Int)) = ((max a.length b.length : Nat) : Int) := by
      by_cases h : ((b.length : Nat) : Int) > ((a.length : Nat) : Int)
      · rw [if_pos h]
        omega
      · rw [if_neg h]
        omega
    rw [em]
    refine ⟨_, rfl, by omega, by omega, ?_⟩
    refine for_range (lo := 0) (n := (((max a.length b.length : Nat) : Int)).toNat) (fun i σ H' => ∃ v3 v4 v5, σ = [some z, some (tx a), some (tx b), v3, v4, v5] ∧ H' = H ∧ i ≤ cpl a b)
      ⟨none, none, none, rfl, rfl, Nat.zero_le _⟩ ?_ ?_
    · rintro i σ H' hi ⟨v3, v4, v5, rfl, rfl, hic⟩
      rw [Int.toNat_natCast] at hi
      refine ⟨_, rfl, _, rfl, _, rfl, _, rfl, _, _, rfl, rfl, _, rfl, _, rfl, za, _, rfl, _, rfl, _, rfl, _, rfl, _, _, rfl, rfl, _, rfl, _, rfl, zb, _, _, rfl, ?_⟩
      have e1 : Txt.slice (S a) (some (0 + (i : Int))) (some (0 + (i : Int) + 1)) = S (sgL a i) := by
        rw [Int.zero_add]
        exact slice_mid
      have e2 : Txt.slice (S b) (some (0 + (i : Int))) (some (0 + (i : Int) + 1)) = S (sgL b i) := by
        rw [Int.zero_add]
        exact slice_mid
      rw [e1, e2]
      refine ⟨_, rfl, _, rfl, rfl, _, rfl, ?_⟩
      by_cases hlt : i < cpl a b
      · have hab := cpl_one hlt
        have eab : sgL a i = sgL b i := by
          cases hc : a[i]? with
          | none => rw [sgL_none hc, sgL_none (hab.symm.trans hc)]
          | some c => rw [sgL_some hc, sgL_some (hab.symm.trans hc)]
        rw [eab, decide_eq_true rfl]
        exact iteF ⟨_, _, _, rfl, rfl, hlt⟩
      · have ei : i = cpl a b := by omega
        have hne : a ≠ b := fun e => by
          subst e
          have := cpl_max (a := a) (b := a) (Nat.le_refl _) (Nat.le_refl _) rfl
          omega
        subst ei
        have hd := cpl_ne hne
        have hsn : sgL a (cpl a b) ≠ sgL b (cpl a b) := fun e => hd (by
          cases h1 : a[cpl a b]? with
          | none =>
            cases h2 : b[cpl a b]? with
            | none => rfl
            | some d => rw [sgL_none h1, sgL_some h2] at e; cases e
          | some c =>
            cases h2 : b[cpl a b]? with
            | none => rw [sgL_some h1, sgL_none h2] at e; cases e
            | some d => rw [sgL_some h1, sgL_some h2] at e; cases e; rfl)
        rw [decide_eq_false (fun e => hsn (S_inj (V.str.inj e)))]
        refine iteT ⟨_, rfl, ?_⟩
        refine sg_red (a := a) (k := cpl a b) rfl ?_
        refine sg_red (a := b) (k := cpl a b) rfl ?_
        refine ⟨(by show 3 ≤ sizeLine; decide), fun p np => ?_⟩
        refine q hne _ p (same_new np) np ?_
        rw [upd_same, Int.zero_add]
        rfl
    · rintro σ H' ⟨v3, v4, v5, rfl, rfl, hic⟩
      rw [Int.toNat_natCast] at hic
      refine q0 ?_
      have h1 := cpl_take (a := a) (b := b) (Nat.le_refl _)
      rw [List.take_of_length_le (by omega), List.take_of_length_le (by omega)] at h1
      exact h1
abbrev sLCp : Stmt := topS 80
theorem scLCp : FnScope ["_law_signs", "_law_mine", "_law_yours", "_law_found"] ["_law_signs", "_law_mine", "_law_yours"] (defScope sLCp) := ⟨rfl, rfl, rfl, by decide +kernel, rfl, by decide +kernel, by decide +kernel⟩
theorem ok_lcp {f f1 : Addr} {fd fd1 : FuncData} (F : Fun K "_law_compared" "_law_compared" sLCp f fd) (c1 : Cl P w K mg base "_law_order" 1 ["_law_signs", "_law_mine", "_law_yours"] spLOr f1 fd1) :
    FnOk P w K mg base CX0 2 f fd ["_law_signs", "_law_mine", "_law_yours"] spTW := by
  refine F.ok scLCp (fun vs H Q E h => ?_) (fun cdv A outer s H vs Q E hr h => ?_)
  · obtain ⟨gs, a, b, rfl, _⟩ := h
    rfl
  · obtain ⟨gs, a, b, rfl, ha, hb, ma, mb, q⟩ := h
    refine ⟨_, pss_cons (ps_set (i := 3) scLCp.nd rfl (.inl rfl) (pe_cl c1 hr (by decide) (by rfl) (pa_cons (pv 0) (pa_cons (pv 1) (pa_cons (pv 2) pa_nil)))))
      (pss_cons (ps_if (pt_cmpR op_isN (pv 3) pe_non (nomark _)) (pss_one (ps_ret pe_str)) pss_nil)
      (pss_cons (ps_if (pt_cmpR op_isN (pe_ix ix_tup (pv 3) pe_int (fun _ _ => rfl)) pe_non (nomark _)) (pss_one (ps_ret pe_str)) pss_nil)
      (pss_cons (ps_if (pt_cmpR op_isN (pe_ix ix_tup (pv 3) pe_int (fun _ _ => rfl)) pe_non (nomark _)) (pss_one (ps_ret pe_str)) pss_nil)
      (pss_one (ps_ret (pe_ifExp (pt_cmpR op_lt (pe_m1 PySem.F.slot_str_index PySem.F.type_str_index mt_sindex (pv 0) (pe_ix ix_tup (pv 3) pe_int (fun _ _ => rfl))) (pe_m1 PySem.F.slot_str_index PySem.F.type_str_index mt_sindex (pv 0) (pe_ix ix_tup (pv 3) pe_int (fun _ _ => rfl))) (nomark _)) pe_str pe_str)))))), ?_⟩
    unfold cmpW at q
    refine ⟨_, rfl, _, rfl, _, rfl, _, a, b, rfl, ha, hb, fun h => ?_, fun h H1 p s1 np hp => ?_⟩
    · rw [if_pos h] at q
      exact ⟨_, rfl, rfl, true, rfl, iteT (q _ (Same.refl _))⟩
    · rw [if_neg h] at q
      unfold dfV ltV at hp
      refine ⟨_, rfl, rfl, false, rfl, iteF ?_⟩
      cases h1 : a[cpl a b]? with
      | none =>
        rw [h1] at q hp
        exact ⟨_, rfl, p, _, _, _, rfl, rfl, .inl (.inl hp), atI_nat (j := 1) rfl, rfl, true, rfl, iteT (q _ s1)⟩
      | some c =>
        cases h2 : b[cpl a b]? with
        | none =>
          rw [h1, h2] at q hp
          refine ⟨_, rfl, p, _, _, _, rfl, rfl, .inl (.inl hp), atI_nat (j := 1) rfl, rfl, false, rfl, iteF ?_⟩
          exact ⟨_, rfl, p, _, _, _, rfl, rfl, .inl (.inl hp), atI_nat (j := 2) rfl, rfl, true, rfl, iteT (q _ s1)⟩
        | some d =>
          rw [h1, h2] at q hp
          refine ⟨_, rfl, p, _, _, _, rfl, rfl, .inl (.inl hp), atI_nat (j := 1) rfl, rfl, false, rfl, iteF ?_⟩
          refine ⟨_, rfl, p, _, _, _, rfl, rfl, .inl (.inl hp), atI_nat (j := 2) rfl, rfl, false, rfl, iteF ?_⟩
          obtain ⟨r1, o1⟩ := occ1 (ma c (List.mem_of_getElem? h1))
          obtain ⟨r2, o2⟩ := occ1 (mb d (List.mem_of_getElem? h2))
          refine ⟨_, rfl, ⟨_, rfl⟩, _, rfl, p, _, _, _, rfl, rfl, .inl (.inl hp), atI_nat (j := 1) rfl, _, _, _, r1, rfl, rfl, o1, _, rfl, ⟨_, rfl⟩, _, rfl, p, _, _, _, rfl, rfl, .inl (.inl hp), atI_nat (j := 2) rfl, _, _, _, r2, rfl, rfl, o2, _, _, rfl, rfl, _, rfl, ?_⟩
          have q' := q _ s1
          by_cases hlt : gs.idxOf c < gs.idxOf d
          · rw [decide_eq_true (by omega)]
            refine iteT ?_
            simp only [if_pos hlt] at q'
            exact q'
          · rw [decide_eq_false (by omega)]
            refine iteF ?_
            simp only [if_neg hlt] at q'
            exact q'
end
end Own

namespace Own
open PySem PySem.Spec PyProof.Rows L2 SX RZ
section
variable {P : Program} {w : World} {K : PySem.W.Frag} {mg : Str → Option Value} {base : Heap}
def pfx (gs : List Nat) (dn : List (List Nat)) : List Nat := (dn.map (iTx gs)).flatten
theorem pfx_app {gs : List Nat} {a b : List (List Nat)} : pfx gs (a ++ b) = pfx gs a ++ pfx gs b := by unfold pfx; rw [List.map_append, List.flatten_append]
theorem rTx_pfx {gs : List Nat} {its : List (List Nat)} (h : its ≠ []) : rTx gs its = pfx gs its := by unfold rTx; rw [if_neg h]; rfl
theorem pfx_one {gs x : List Nat} : pfx gs [x] = iTx gs x := by unfold pfx; simp
theorem iTx_head {gs x : List Nat} (hg : Good gs) (h : (∃ c, c ∈ gs ∧ x = [c]) ∨ x.Perm gs) : (∃ c, c ∈ gs ∧ x = [c] ∧ iTx gs x = [c]) ∨ (x.Perm gs ∧ 2 ≤ x.length ∧ iTx gs x = 123 :: ((if x = gs then [] else x) ++ [125])) := by
  have hlo := hg.lo
  rcases h with ⟨c, hc, rfl⟩ | pt
  · exact .inl ⟨c, hc, rfl, by unfold iTx; rw [if_neg (by show ¬ 1 < 1; omega)]⟩
  · have hl := pt.length_eq
    refine .inr ⟨pt, by omega, ?_⟩
    unfold iTx
    rw [if_pos (by omega)]
    by_cases e : x = gs
    · rw [if_pos e, if_pos e]; rfl
    · rw [if_neg e, if_neg e]; rfl
theorem pfx_len {gs : List Nat} (hg : Good gs) : ∀ {its : List (List Nat)}, Row gs its → its.length ≤ (pfx gs its).length
  | [], _ => Nat.le_refl _
  | x :: r, h => by
    have ih := pfx_len hg (its := r) fun y hy => h y (List.mem_cons_of_mem _ hy)
    rw [show pfx gs (x :: r) = iTx gs x ++ pfx gs r from rfl, List.length_append, List.length_cons]
    rcases iTx_head hg (h x (List.mem_cons_self ..)) with ⟨c, _, _, e⟩ | ⟨_, _, e⟩
    · rw [e]; show _ ≤ 1 + _; omega
    · rw [e, List.length_cons]; omega
theorem rTx_dash {gs : List Nat} (hg : Good gs) {its : List (List Nat)} (h : Row gs its) (ne : its ≠ []) : rTx gs its ≠ [45] := by
  rw [rTx_pfx ne]
  cases its with
  | nil => exact absurd rfl ne
  | cons x r =>
    rw [show pfx gs (x :: r) = iTx gs x ++ pfx gs r from rfl]
    rcases iTx_head hg (h x (List.mem_cons_self ..)) with ⟨c, hc, _, e⟩ | ⟨_, _, e⟩
    · rw [e]
      have := hg.az c hc
      exact fun z => by injection z with z1; omega
    · rw [e]
      exact fun z => by injection z with z1; omega
def spLri : Sp := fun vs H Q _ => ∃ (gs : List Nat) (its : List (List Nat)), vs = [tx gs, tx (rTx gs its)] ∧ Good gs ∧ Row gs its ∧ (rTx gs its).length ≤ 1000 ∧ ∀ H' p, Same H H' → H p = none → H' p = some (.lst (its.map tx)) → Q (.ref p) H'
abbrev sLri : Stmt := topS 81
abbrev lriN : List Str := ["_law_signs", "_law_shown", "_law_found", "_law_at", "_law_k", "_law_body"]
theorem scLri : FnScope lriN ["_law_signs", "_law_shown"] (defScope sLri) := ⟨rfl, rfl, rfl, by decide +kernel, rfl, by decide +kernel, by decide +kernel⟩
theorem ok_lri {f : Addr} {fd : FuncData} (F : Fun K "_law_read_items" "_law_read_items" sLri f fd) (m_len : mg "len" = none) (m_range : mg "range" = none) :
    FnOk P w K mg base CX0 1 f fd ["_law_signs", "_law_shown"] spLri := by
  refine F.ok scLri (fun vs H Q E h => ?_) (fun cdv A outer s H vs Q E hr h => ?_)
  · obtain ⟨gs, its, rfl, _⟩ := h
    rfl
  · obtain ⟨gs, its, rfl, hg, hR, hl, q⟩ := h
    refine ⟨_, (pss_cons (ps_par (i := 2) (j := 3) (by rfl) scLri.nd rfl rfl (by decide) rfl rfl (pa_cons (pe_lst pa_nil) (pa_cons pe_int pa_nil)) (by rfl))
      (pss_cons (ps_for PassesOwn.never rfl (pi_range1 rfl m_range (pa_cons (pe_callB call_len_str (by rfl) m_len PySem.boot_len (pa_cons (pv 1) pa_nil)) pa_nil)) (pg_name (i := 4) scLri.nd rfl (by first | exact .inl rfl | exact .inr rfl))
        (pss_one (ps_if (PW.pt (pw_and (pt_cmpR op_lt (pv 3) (pe_callB call_len_str (by rfl) m_len PySem.boot_len (pa_cons (pv 1) pa_nil)) (nomark _)) (pw_and1 (pt_cmpR op_eq (pe_ix ix_str (pv 1) (pv 3) (fun _ _ => rfl)) pe_str (nomark _))))) (pss_cons (ps_set (i := 5) scLri.nd rfl (by first | exact .inl rfl | exact .inr rfl) (pe_ix (ixT (K := K) rfl) (pe_partition (pe_slice sl_str (pv 1) (po_some (pe_op op_add (pv 3) pe_int)) po_none) pe_str) pe_int (fun _ _ => rfl)))
      (pss_cons (ps_expr (pe_bm PySem.F.plainAttrs_list PySem.F.slot_list_append PySem.F.type_list_append mt_append (pv 2) (pa_cons (pe_ifExp (pt_cmpR op_ne (pv 5) pe_str (nomark _)) (pv 5) (pv 0)) pa_nil)))
      (pss_one (ps_set (i := 3) scLri.nd rfl (by first | exact .inl rfl | exact .inr rfl) (pe_op op_add (pe_op op_add (pv 3) (pe_callB call_len_str (by rfl) m_len PySem.boot_len (pa_cons (pv 5) pa_nil))) pe_int))))) (pss_one (ps_if (PW.pt (pw_and (pt_cmpR op_lt (pv 3) (pe_callB call_len_str (by rfl) m_len PySem.boot_len (pa_cons (pv 1) pa_nil)) (nomark _)) (pw_and1 (pt_cmpR op_ne (pv 1) pe_str (nomark _))))) (pss_cons (ps_expr (pe_bm PySem.F.plainAttrs_list PySem.F.slot_list_append PySem.F.type_list_append mt_append (pv 2) (pa_cons (pe_ix ix_str (pv 1) (pv 3) (fun _ _ => rfl)) pa_nil)))
      (pss_one (ps_set (i := 3) scLri.nd rfl (by first | exact .inl rfl | exact .inr rfl) (pe_op op_add (pv 3) pe_int)))) pss_nil)))))
      (pss_one (ps_ret (pv 2))))), ?_⟩
    have sz : ∀ n : Nat, n ≤ 2000 → n ≤ sizeLine := fun n hn => by rw [sizeLine_eq]; omega
    obtain ⟨xs, exs⟩ : ∃ xs, xs = rTx gs its := ⟨_, rfl⟩
    rw [← exs] at hl ⊢
    have zl : (S xs).length ≤ sizeLine := by rw [S_len]; exact sz _ (by omega)
    refine ⟨Nat.zero_le _, fun D nD => ?_⟩
    have s0 := same_new (o := .lst []) nD
    refine ⟨_, _, rfl, ?_⟩
    try dsimp only [gName, tSeq, tAsg, List.set_cons_zero, List.set_cons_succ]
    refine ⟨_, rfl, S xs, rfl, zl, _, rfl, by rw [S_len]; omega, by rw [S_len]; omega, ?_⟩
    rw [S_len, show ((xs.length : Nat) : Int).toNat = xs.length from rfl]
    have e0 : Str.ofString "{" = S [123] := by decide +kernel
    have e1 : Str.ofString "}" = S [125] := by decide +kernel
    have e2 : Str.ofString "" = S [] := by decide +kernel
    have e3 : Str.ofString "-" = S [45] := by decide +kernel
    refine for_range (lo := 0) (n := xs.length) (fun i σ H' => ∃ (v4 v5 : Option V) (dn rest : List (List Nat)), σ = [some (tx gs), some (tx xs), some (.ref D), some (iv (pfx gs dn).length), v4, v5] ∧ its = dn ++ rest ∧ (rest = [] ∨ dn.length = i) ∧ Same H H' ∧ H' D = some (.lst (dn.map tx)))
      ⟨_, _, [], its, rfl, rfl, .inr rfl, s0, upd_same⟩ ?_ ?_
    · rintro i σ H' hi ⟨v4, v5, dn, rest, rfl, eits, hdn, s1, hD⟩
      try dsimp only [gName, tSeq, tAsg, tNext, List.set_cons_zero, List.set_cons_succ]
      cases rest with
      | nil =>
        rw [List.append_nil] at eits
        have key : ¬ (((pfx gs dn).length : Nat) : Int) < ((xs.length : Nat) : Int) ∨ (xs = [45] ∧ (pfx gs dn).length = 0) := by
          by_cases z : its = []
          · exact .inr ⟨by rw [exs, z]; rfl, by rw [← eits, z]; rfl⟩
          · refine .inl ?_
            rw [exs, rTx_pfx z, eits]
            omega
        refine ⟨_, rfl, _, rfl, S xs, rfl, zl, _, _, rfl, rfl, _, rfl, ?_⟩
        rw [S_len]
        rcases key with k1 | ⟨k1, k2⟩
        · rw [decide_eq_false k1]
          refine iteF ⟨_, rfl, _, rfl, S xs, rfl, zl, _, _, rfl, rfl, _, rfl, ?_⟩
          rw [S_len, decide_eq_false k1]
          refine iteF ?_
          exact ⟨_, _, dn, [], rfl, by rw [List.append_nil]; exact eits, .inl rfl, s1, hD⟩
        · rw [k2, decide_eq_true (by rw [k1]; decide)]
          refine iteT ⟨_, rfl, _, rfl, _, _, 45, rfl, rfl, zl, atI_nat (j := 0) (by rw [k1]; rfl), rfl, _, rfl, ?_⟩
          rw [e0, decide_eq_false (fun e => by cases S_inj (V.str.inj e))]
          refine iteF ⟨_, rfl, _, rfl, S xs, rfl, zl, _, _, rfl, rfl, _, rfl, ?_⟩
          rw [S_len, decide_eq_true (by rw [k1]; decide)]
          refine iteT ⟨_, rfl, rfl, _, rfl, ?_⟩
          rw [e3, k1, decide_eq_true rfl]
          refine iteF ?_
          exact ⟨_, _, dn, [], by rw [k2], by rw [List.append_nil]; exact eits, .inl rfl, s1, hD⟩
      | cons x rest =>
        have hne : its ≠ [] := by rw [eits]; exact fun z => by cases dn <;> cases z
        have hxs : xs = pfx gs dn ++ (iTx gs x ++ pfx gs rest) := by
          rw [exs, rTx_pfx hne, eits, pfx_app]
          rfl
        have hxl := congrArg List.length hxs
        rw [List.length_append, List.length_append] at hxl
        have hdn : dn.length = i := hdn.resolve_left (fun z => nomatch z)
        have hxR := hR x (by rw [eits]; exact List.mem_append_right _ (List.mem_cons_self ..))
        have il : its.length ≤ 1000 := by
          have := pfx_len hg hR
          rw [← rTx_pfx hne, ← exs] at this
          omega
        have dl : (dn.map tx).length < sizeLine := by
          rw [eits, List.length_append] at il
          rw [List.length_map, sizeLine_eq]; omega
        have e45 : xs ≠ [45] := by rw [exs]; exact rTx_dash hg hR hne
        have eits2 : its = (dn ++ [x]) ++ rest := by rw [eits, List.append_assoc]; rfl
        have dl2 : (dn ++ [x]).length = i + 1 := by rw [List.length_append, hdn]; rfl
        have eM : dn.map tx ++ [tx x] = (dn ++ [x]).map tx := by rw [List.map_append]; rfl
        refine ⟨_, rfl, _, rfl, S xs, rfl, zl, _, _, rfl, rfl, _, rfl, ?_⟩
        rcases iTx_head hg hxR with ⟨c, hc, rfl, ec⟩ | ⟨pt, hl2, ec⟩
        · rw [ec] at hxs hxl
          have hxl : xs.length = (pfx gs dn).length + (1 + (pfx gs rest).length) := hxl
          have hat : xs[(pfx gs dn).length]? = some c := by rw [hxs, List.getElem?_append_right (Nat.le_refl _), Nat.sub_self]; rfl
          rw [S_len, decide_eq_true (by omega)]
          refine iteT ⟨_, rfl, _, rfl, _, _, c, rfl, rfl, zl, atI_nat hat, rfl, _, rfl, ?_⟩
          have haz := hg.az c hc
          rw [e0, decide_eq_false (fun e => by have := S_inj (V.str.inj e); injection this with z; omega)]
          refine iteF ⟨_, rfl, _, rfl, S xs, rfl, zl, _, _, rfl, rfl, _, rfl, ?_⟩
          rw [S_len, decide_eq_true (by omega)]
          refine iteT ⟨_, rfl, rfl, _, rfl, ?_⟩
          rw [e3, decide_eq_false (fun e => e45 (S_inj (V.str.inj e)))]
          refine iteT ⟨_, rfl, .inl ⟨rfl, _, sqL hD⟩, _, rfl, _, rfl, _, _, c, rfl, rfl, zl, atI_nat hat, D, _, _, rfl, rfl, hD, dl, ?_⟩
          refine ⟨_, rfl, _, _, rfl, rfl, ?_⟩
          refine ⟨some (.int (0 + (i : Int))), v5, dn ++ [[c]], rest, ?_, eits2, .inr dl2, same_put s1 nD, by rw [upd_same]; exact congrArg (fun z => some (HO.lst z)) eM⟩
          rw [show ((pfx gs (dn ++ [[c]])).length) = (pfx gs dn).length + 1 by rw [pfx_app, pfx_one, ec, List.length_append]; rfl]
          rfl
        · obtain ⟨bd, ebd⟩ : ∃ bd, bd = (if x = gs then [] else x) := ⟨_, rfl⟩
          rw [← ebd] at ec
          rw [ec] at hxs hxl
          have hxl : xs.length = (pfx gs dn).length + ((bd ++ [125]).length + 1 + (pfx gs rest).length) := hxl
          rw [List.length_append] at hxl
          have hat : xs[(pfx gs dn).length]? = some 123 := by rw [hxs, List.getElem?_append_right (Nat.le_refl _), Nat.sub_self]; rfl
          rw [S_len, decide_eq_true (by omega)]
          refine iteT ⟨_, rfl, _, rfl, _, _, 123, rfl, rfl, zl, atI_nat hat, rfl, _, rfl, ?_⟩
          rw [e0, decide_eq_true rfl]
          refine iteT ?_
          have ea : V.int (((pfx gs dn).length : Int) + 1) = V.int (((pfx gs dn).length + 1 : Nat) : Int) := by rw [Int.natCast_add]; rfl
          have hbm : 125 ∉ bd := fun z => by
            rw [ebd] at z
            split at z
            · cases z
            · have := hg.az 125 (pt.mem_iff.mp z); omega
          have hdr : xs.drop ((pfx gs dn).length + 1) = bd ++ 125 :: pfx gs rest := by
            rw [hxs, ← List.drop_drop, List.drop_left]
            show (bd ++ [125]) ++ pfx gs rest = _
            rw [List.append_assoc]
            rfl
          refine ⟨_, rfl, _, rfl, _, _, rfl, rfl, _, ea, S xs, rfl, zl, ⟨_, rfl⟩, _, S [125], rfl, by rw [e1], rfl, ?_, fun P1 nP1 => ?_⟩
          · rw [cutN_from (by omega), S_len]; exact sz _ (by rw [List.length_drop]; omega)
          rw [cutN_from (by omega), hdr, part_at hbm]
          have sP := same_new (o := .tup [V.str (S bd), V.str (Txt.partition (S (bd ++ 125 :: pfx gs rest)) (S [125])).2.1, V.str (Txt.partition (S (bd ++ 125 :: pfx gs rest)) (S [125])).2.2]) nP1
          refine ⟨P1, _, 0, _, rfl, rfl, sqT upd_same, atI_nat (j := 0) rfl, ?_⟩
          generalize upd H' P1 _ = H2 at sP ⊢
          try dsimp only [gName, tSeq, tAsg, List.set_cons_zero, List.set_cons_succ]
          have hD2 := sP _ _ hD
          have hbl : bd.length ≤ 1000 := by omega
          have fin : ∀ H3 : Hp, H3 = upd H2 D (.lst ((dn ++ [x]).map tx)) → ∃ v4 v5 dn' rest', [some (tx gs), some (tx xs), some (V.ref D), some (V.int (((pfx gs dn).length : Int) + ((S bd).length : Nat) + 2)), some (V.int (0 + (i : Int))), some (V.str (S bd))] = [some (tx gs), some (tx xs), some (V.ref D), some (iv (pfx gs dn').length), v4, v5] ∧ its = dn' ++ rest' ∧ (rest' = [] ∨ dn'.length = i + 1) ∧ Same H H3 ∧ H3 D = some (.lst (dn'.map tx)) := fun H3 e3 => by
            subst e3
            refine ⟨some (.int (0 + (i : Int))), some (.str (S bd)), dn ++ [x], rest, ?_, eits2, .inr dl2, same_put (s1.trans sP) nD, upd_same⟩
            have : V.int (((pfx gs dn).length : Int) + ((S bd).length : Nat) + 2) = iv (pfx gs (dn ++ [x])).length := by
              rw [pfx_app, pfx_one, ec, List.length_append, List.length_cons, List.length_append, S_len]
              show _ = V.int (((pfx gs dn).length + (bd.length + [125].length + 1) : Nat) : Int)
              rw [show (((pfx gs dn).length + (bd.length + [125].length + 1) : Nat) : Int) = ((pfx gs dn).length : Int) + (bd.length : Int) + 2 by simp; omega]
            rw [this]
          refine ⟨_, rfl, .inl ⟨rfl, _, sqL hD2⟩, ?_⟩
          by_cases hx : x = gs
          · have hb0 : bd = [] := by rw [ebd, if_pos hx]
            refine ⟨_, rfl, rfl, _, rfl, ?_⟩
            rw [e2, hb0, decide_eq_true rfl]
            refine iteF ⟨_, rfl, D, _, _, rfl, rfl, hD2, dl, ?_⟩
            refine ⟨_, rfl, _, rfl, S [], rfl, by rw [S_len]; exact sz _ (by decide), _, _, rfl, rfl, _, _, rfl, rfl, ?_⟩
            rw [hb0] at fin
            exact fin _ (by rw [← eM, hx])
          · have hb0 : bd = x := by rw [ebd, if_neg hx]
            refine ⟨_, rfl, rfl, _, rfl, ?_⟩
            rw [e2, decide_eq_false (fun e => by have := S_inj (V.str.inj e); rw [hb0] at this; rw [this] at hl2; exact absurd hl2 (by decide))]
            refine iteT ⟨_, rfl, D, _, _, rfl, rfl, hD2, dl, ?_⟩
            refine ⟨_, rfl, _, rfl, S bd, rfl, by rw [S_len]; exact sz _ (by omega), _, _, rfl, rfl, _, _, rfl, rfl, ?_⟩
            exact fin _ (by rw [← eM, hb0])
    · rintro σ H' ⟨v4, v5, dn, rest, rfl, eits, hdn, s1, hD⟩
      have er : rest = [] := by
        rcases hdn with h | h
        · exact h
        · have l1 : its.length ≤ xs.length := by
            by_cases z : its = []
            · rw [z]; exact Nat.zero_le _
            · rw [exs, rTx_pfx z]; exact pfx_len hg hR
          rw [eits, List.length_append] at l1
          exact List.eq_nil_of_length_eq_zero (by omega)
      rw [er, List.append_nil] at eits
      refine ⟨_, rfl, q _ D s1 nD (by rw [eits]; exact hD)⟩
end
end Own

namespace Own
open PySem PySem.Spec PyProof.Rows L2 SX RZ
section
variable {P : Program} {w : World} {K : PySem.W.Frag} {mg : Str → Option Value} {base : Heap}
def spLfd : Sp := fun vs H Q _ => ∃ (gs x ws : List Nat) (n : Nat), vs = [tx gs, tx x, tx ws] ∧ Good gs ∧ Its_ gs n x ∧ n ≤ 3 ∧ ws.length ≤ 1000 ∧ (∀ c ∈ ws, c ∈ gs) ∧ ∀ H', Same H H' → Q (tx (fillL gs (itsOf gs n x) ws)) H'
abbrev sLfd : Stmt := topS 82
abbrev lfdN : List Str := ["_law_signs", "_law_fill_here", "_law_shown"]
theorem scLfd : FnScope lfdN ["_law_signs", "_law_fill_here", "_law_shown"] (defScope sLfd) := ⟨rfl, rfl, rfl, by decide +kernel, rfl, by decide +kernel, by decide +kernel⟩
theorem ok_lfd {f : Addr} {fd : FuncData} (F : Fun K "_law_filled" "_law_filled" sLfd f fd) {f1 : Addr} {fd1 : FuncData} (c1 : Cl P w K mg base "_law_fill" 2 ["_law_signs", "_law_items_here", "_law_shown"] (spLf K) f1 fd1) {f2 : Addr} {fd2 : FuncData} (c2 : Cl P w K mg base "_law_read_items" 1 ["_law_signs", "_law_shown"] spLri f2 fd2) :
    FnOk P w K mg base CX0 3 f fd ["_law_signs", "_law_fill_here", "_law_shown"] spLfd := by
  refine F.ok scLfd (fun vs H Q E h => ?_) (fun cdv A outer s H vs Q E hr h => ?_)
  · obtain ⟨gs, x, ws, n, rfl, _⟩ := h
    rfl
  · obtain ⟨gs, x, ws, n, rfl, hg, hx, hn, hl, hm, q⟩ := h
    refine ⟨_, (pss_one (ps_ret (pe_cl c1 hr (by decide) (by rfl) (pa_cons (pv 0) (pa_cons (pe_cl c2 hr (by decide) (by rfl) (pa_cons (pv 0) (pa_cons (pv 1) pa_nil))) (pa_cons (pv 2) pa_nil)))))), ?_⟩
    obtain ⟨r1, l1, e1⟩ := its_spec hx
    refine ⟨_, rfl, _, rfl, _, rfl, gs, itsOf gs n x, by rw [e1]; rfl, hg, r1, rTx_len hg r1 (by omega), fun H1 p s1 np hp => ?_⟩
    refine ⟨_, rfl, gs, p, itsOf gs n x, ws, rfl, hg, r1, by omega, sqL hp, hl, hm, fun H2 s2 => ?_⟩
    exact q _ (s1.trans s2)
end
end Own

namespace Own
open PySem PySem.Spec PyProof.Rows L2 SX RZ
section
variable {P : Program} {w : World} {K : PySem.W.Frag} {mg : Str → Option Value} {base : Heap}
def spLas : Sp := fun vs H Q _ => ∃ (gs : List Nat) (c : Cnd.Cd) (v : V) (ws : List Nat), vs = [tx gs, v, tx ws] ∧ Good gs ∧ CdH H c v ∧ OkA gs c ∧ ws.length ≤ 300 ∧ (∀ c ∈ ws, c ∈ gs) ∧ ∀ H', Same H H' → Q (.bl (ansC gs ws c)) H'
abbrev sLas : Stmt := topS 90
abbrev lasN : List Str := ["_law_signs", "_law_condition", "_law_shown", "_law_word_here", "_law_sign", "_law_left", "_law_right"]
theorem scLas : FnScope lasN ["_law_signs", "_law_condition", "_law_shown"] (defScope sLas) := ⟨rfl, rfl, rfl, by decide +kernel, rfl, by decide +kernel, by decide +kernel⟩
theorem ok_las {f : Addr} {fd : FuncData} (F : Fun K "_law_asked" "_law_asked" sLas f fd) (m_int : mg "int" = none) (m_len : mg "len" = none) {f1 : Addr} {fd1 : FuncData} (c1 : Cl P w K mg base "_law_filled" 3 ["_law_signs", "_law_fill_here", "_law_shown"] spLfd f1 fd1) {f2 : Addr} {fd2 : FuncData} (c2 : Cl P w K mg base "_law_compared" 2 ["_law_signs", "_law_mine", "_law_yours"] spTW f2 fd2) :
    FnOk P w K mg base CX0 4 f fd ["_law_signs", "_law_condition", "_law_shown"] spLas := by
  refine F.ok scLas (fun vs H Q E h => ?_) (fun cdv A outer s H vs Q E hr h => ?_)
  · obtain ⟨gs, c, v, ws, rfl, _⟩ := h
    rfl
  · obtain ⟨gs, c, v, ws, rfl, hg, hc, ok, hl, hm, q⟩ := h
    refine ⟨_, (pss_cons (ps_set (i := 3) scLas.nd rfl (by first | exact .inl rfl | exact .inr rfl) (pe_ix (ixT (K := K) rfl) (pv 1) pe_int (fun _ _ => rfl)))
      (pss_cons (ps_if (pt_cmpR op_eq (pv 3) pe_str (nomark _)) (pss_cons (ps_set (i := 4) scLas.nd rfl (by first | exact .inl rfl | exact .inr rfl) (pe_replK (ixT (K := K) rfl) (pv 1) (fun _ _ => rfl)))
      (pss_one (ps_ret (pe_ifExp (pt_cmpR op_eq (pe_ix ix_str (pe_ix (ixT (K := K) rfl) (pv 1) pe_int (fun _ _ => rfl)) pe_int (fun _ _ => rfl)) (pv 4) (nomark _)) (pe_bm PySem.F.plainAttrs_str PySem.F.slot_str_startswith PySem.F.type_str_startswith mt_startswith (pv 2) (pa_cons (pv 4) pa_nil)) (pe_bm PySem.F.plainAttrs_str PySem.F.slot_str_endswith PySem.F.type_str_endswith mt_endswith (pv 2) (pa_cons (pv 4) pa_nil)))))) pss_nil)
      (pss_cons (ps_if (pt_cmpR op_eq (pv 3) pe_str (nomark _)) (pss_one (ps_ret (pe_cmpR op_eq (pe_op op_mod (pe_callTy call_int1 (by rfl) m_int (by decide +kernel) (pa_cons (pe_callB call_len_str (by rfl) m_len PySem.boot_len (pa_cons (pv 2) pa_nil)) pa_nil)) (pe_ix (ixT (K := K) rfl) (pv 1) pe_int (fun _ _ => rfl))) (pe_ix (ixT (K := K) rfl) (pv 1) pe_int (fun _ _ => rfl)) (nomark _)))) pss_nil)
      (pss_cons (ps_par (i := 5) (j := 6) (by rfl) scLas.nd rfl rfl (by decide) rfl rfl (pa_cons (pe_cl c1 hr (by decide) (by rfl) (pa_cons (pv 0) (pa_cons (pe_ix (ixT (K := K) rfl) (pv 1) pe_int (fun _ _ => rfl)) (pa_cons (pv 2) pa_nil)))) (pa_cons (pe_cl c1 hr (by decide) (by rfl) (pa_cons (pv 0) (pa_cons (pe_ix (ixT (K := K) rfl) (pv 1) pe_int (fun _ _ => rfl)) (pa_cons (pv 2) pa_nil)))) pa_nil)) (by rfl))
      (pss_cons (ps_if (pt_cmpR op_eq (pv 3) pe_str (nomark _)) (pss_one (ps_ret (pe_bm PySem.F.plainAttrs_str PySem.F.slot_str_startswith PySem.F.type_str_startswith mt_startswith (pv 6) (pa_cons (pv 5) pa_nil)))) pss_nil)
      (pss_cons (ps_if (pt_cmpR op_eq (pv 3) pe_str (nomark _)) (pss_one (ps_ret (pe_bm PySem.F.plainAttrs_str PySem.F.slot_str_endswith PySem.F.type_str_endswith mt_endswith (pv 6) (pa_cons (pv 5) pa_nil)))) pss_nil)
      (pss_one (ps_ret (pe_cmpR op_in_seq (pe_cl c2 hr (by decide) (by rfl) (pa_cons (pv 0) (pa_cons (pv 5) (pa_cons (pv 6) pa_nil)))) (pe_ifExp (pt_cmpR op_eq (pv 3) pe_str (nomark _)) (pe_lst (pa_cons pe_str pa_nil)) (pe_lst (pa_cons pe_str (pa_cons pe_str pa_nil)))) (by rfl)))))))))), ?_⟩
    have sz : ∀ n : Nat, n ≤ 2000 → n ≤ sizeLine := fun n hn => by rw [sizeLine_eq]; omega
    have e0 : Str.ofString ".*" = S [46, 42] := rfl
    have e1 : Str.ofString "" = S [] := by decide +kernel
    have zw : (S ws).length ≤ sizeLine := by rw [S_len]; exact sz _ (by omega)
    cases ok with
    | @mat1 c hcg =>
      obtain ⟨a, rfl, ha⟩ := hc
      have haz := hg.az c hcg
      refine ⟨_, rfl, a, _, 0, _, rfl, rfl, sqT ha, atI_nat (j := 0) rfl, ?_⟩
      try dsimp only [gName, tSeq, tAsg, List.set_cons_zero, List.set_cons_succ]
      refine ⟨_, rfl, rfl, _, rfl, ?_⟩
      rw [decide_eq_true rfl]
      refine iteT ?_
      rw [e0, e1]
      refine ⟨_, rfl, a, _, 1, _, rfl, rfl, sqT ha, atI_nat (j := 1) rfl, _, rfl, by rw [S_len, S_len]; show 3 + (3 + 1) * 0 ≤ 16777216; decide, ?_⟩
      rw [repl_pre (by omega)]
      try dsimp only [gName, tSeq, tAsg, List.set_cons_zero, List.set_cons_succ]
      refine ⟨_, rfl, a, _, 1, _, rfl, rfl, sqT ha, atI_nat (j := 1) rfl, _, _, c, rfl, rfl, by rw [S_len]; exact sz _ (by show 3 ≤ 2000; decide), atI_nat (j := 0) rfl, _, rfl, rfl, _, rfl, ?_⟩
      rw [decide_eq_true (show V.str ⟨#[c]⟩ = V.str (S [c]) from rfl)]
      refine ⟨_, rfl, rfl, _, rfl, S ws, S [c], rfl, rfl, ?_⟩
      rw [sw_pre]
      have := q H (Same.refl _)
      rw [show decide ([c] <+: ws) = ansC gs ws (.mat [c, 46, 42]) by
        unfold ansC
        rw [Bool.eq_iff_iff]
        simp only [decide_eq_true_eq]
        rw [(x_eq hg.az hcg).1]
        exact (told_pre (by omega)).symm]
      exact this
    | @mat2 c hcg =>
      obtain ⟨a, rfl, ha⟩ := hc
      have haz := hg.az c hcg
      refine ⟨_, rfl, a, _, 0, _, rfl, rfl, sqT ha, atI_nat (j := 0) rfl, ?_⟩
      try dsimp only [gName, tSeq, tAsg, List.set_cons_zero, List.set_cons_succ]
      refine ⟨_, rfl, rfl, _, rfl, ?_⟩
      rw [decide_eq_true rfl]
      refine iteT ?_
      rw [e0, e1]
      refine ⟨_, rfl, a, _, 1, _, rfl, rfl, sqT ha, atI_nat (j := 1) rfl, _, rfl, by rw [S_len, S_len]; show 3 + (3 + 1) * 0 ≤ 16777216; decide, ?_⟩
      rw [repl_suf (by omega)]
      try dsimp only [gName, tSeq, tAsg, List.set_cons_zero, List.set_cons_succ]
      refine ⟨_, rfl, a, _, 1, _, rfl, rfl, sqT ha, atI_nat (j := 1) rfl, _, _, 46, rfl, rfl, by rw [S_len]; exact sz _ (by show 3 ≤ 2000; decide), atI_nat (j := 0) rfl, _, rfl, rfl, _, rfl, ?_⟩
      rw [decide_eq_false (show ¬ V.str ⟨#[46]⟩ = V.str (S [c]) from fun e => by have := S_inj (a := [46]) (V.str.inj e); injection this with z; omega)]
      refine ⟨_, rfl, rfl, _, rfl, S ws, S [c], rfl, rfl, ?_⟩
      rw [sw_suf]
      have := q H (Same.refl _)
      rw [show decide ([c] <:+ ws) = ansC gs ws (.mat [46, 42, c]) by
        unfold ansC
        rw [Bool.eq_iff_iff]
        simp only [decide_eq_true_eq]
        rw [(x_eq hg.az hcg).2]
        exact (told_suf (by omega)).symm]
      exact this
    | @len r m h1 h2 =>
      obtain ⟨a, rfl, ha⟩ := hc
      refine ⟨_, rfl, a, _, 0, _, rfl, rfl, sqT ha, atI_nat (j := 0) rfl, ?_⟩
      try dsimp only [gName, tSeq, tAsg, List.set_cons_zero, List.set_cons_succ]
      refine ⟨_, rfl, rfl, _, rfl, ?_⟩
      rw [decide_eq_false (by decide +kernel)]
      refine iteF ⟨_, rfl, rfl, _, rfl, ?_⟩
      rw [decide_eq_true rfl]
      refine iteT ?_
      refine ⟨_, rfl, S ws, rfl, zw, .inl ⟨_, rfl, _, rfl, a, _, 2, _, rfl, rfl, sqT ha, atI_nat (j := 2) rfl, _, _, rfl, rfl, by show (0 : Int) < (m : Int); omega, _, rfl, a, _, 1, _, rfl, rfl, sqT ha, atI_nat (j := 1) rfl, rfl, ?_⟩⟩
      have := q H (Same.refl _)
      rw [S_len]
      rw [show decide (V.int (((ws.length : Nat) : Int) % (m : Int)) = iv r) = ansC gs ws (.len r m) by
        show _ = decide (ws.length % m = r)
        refine decide_eq_decide.mpr ⟨fun e => by injection e with e; omega, fun e => by rw [← e]; rfl⟩]
      exact this
    | @tpl k a0 b0 x y hk hx hy =>
      obtain ⟨a, rfl, ha⟩ := hc
      obtain ⟨rx, lx, ex⟩ := its_spec hx
      obtain ⟨ry, ly, ey⟩ := its_spec hy
      have flen : ∀ {t : List Nat}, Row gs (itsOf gs 2 t) → (itsOf gs 2 t).length ≤ 2 → (fillL gs (itsOf gs 2 t) ws).length ≤ 700 := fun {t} r l => by
        rw [fill_len hg r]
        have := bl_lt (itsOf gs 2 t)
        have h2 : nBl (itsOf gs 2 t) * ws.length ≤ 2 * 300 := Nat.mul_le_mul (by omega) hl
        omega
      have fx := flen rx lx
      have fy := flen ry ly
      have mx := fill_mem hg rx hm
      have my := fill_mem hg ry hm
      obtain ⟨X, eX⟩ : ∃ X, X = fillL gs (itsOf gs 2 x) ws := ⟨_, rfl⟩
      obtain ⟨Y, eY⟩ : ∃ Y, Y = fillL gs (itsOf gs 2 y) ws := ⟨_, rfl⟩
      rw [← eX] at fx mx
      rw [← eY] at fy my
      refine ⟨_, rfl, a, _, 0, _, rfl, rfl, sqT ha, atI_nat (j := 0) rfl, ?_⟩
      try dsimp only [gName, tSeq, tAsg, List.set_cons_zero, List.set_cons_succ]
      have nk : kwS k ≠ Str.ofString "match" ∧ kwS k ≠ Str.ofString "length" := by
        have : k = 0 ∨ k = 1 ∨ k = 2 ∨ k = 3 := by omega
        rcases this with rfl | rfl | rfl | rfl <;> exact ⟨by decide +kernel, by decide +kernel⟩
      refine ⟨_, rfl, rfl, _, rfl, ?_⟩
      rw [decide_eq_false (fun e => nk.1 (V.str.inj e))]
      refine iteF ⟨_, rfl, rfl, _, rfl, ?_⟩
      rw [decide_eq_false (fun e => nk.2 (V.str.inj e))]
      refine iteF ?_
      refine ⟨_, rfl, _, rfl, a, _, 1, _, rfl, rfl, sqT ha, atI_nat (j := 1) rfl, _, rfl, gs, x, ws, 2, rfl, hg, hx, by decide, by omega, hm, fun H1 s1 => ?_⟩
      refine ⟨_, rfl, _, rfl, a, _, 2, _, rfl, rfl, sqT (s1 _ _ ha), atI_nat (j := 2) rfl, _, rfl, gs, y, ws, 2, rfl, hg, hy, by decide, by omega, hm, fun H2 s2 => ?_⟩
      have s12 := s1.trans s2
      refine ⟨_, _, rfl, ?_⟩
      try dsimp only [gName, tSeq, tAsg, List.set_cons_zero, List.set_cons_succ]
      rw [← eX, ← eY]
      have hk4 : k = 0 ∨ k = 1 ∨ k = 2 ∨ k = 3 := by omega
      rcases hk4 with rfl | rfl | rfl | rfl
      · refine ⟨_, rfl, rfl, _, rfl, ?_⟩
        rw [decide_eq_false (show ¬ V.str (kwS 0) = V.str (Str.ofString "begins") by decide +kernel)]
        refine iteF ⟨_, rfl, rfl, _, rfl, ?_⟩
        rw [decide_eq_false (show ¬ V.str (kwS 0) = V.str (Str.ofString "ends") by decide +kernel)]
        refine iteF ?_
        refine ⟨_, rfl, _, rfl, _, rfl, gs, X, Y, rfl, by omega, by omega, mx, my, fun H3 s3 => ⟨_, rfl, rfl, _, rfl, ?_⟩⟩
        rw [decide_eq_true (show V.str (kwS 0) = V.str (Str.ofString "same") from rfl)]
        refine ⟨by exact sz _ (by show 1 ≤ 2000; decide), fun L nL => ⟨L, _, rfl, .inl (sqL upd_same), rfl, rfl, ?_⟩⟩
        rw [show (if false = true then !inV (.str (cmpW gs X Y)) [.str (Str.ofString "equal")] else inV (.str (cmpW gs X Y)) [.str (Str.ofString "equal")]) = ansC gs ws (.tpl 0 a0 b0 x y) by
          show inV (.str (cmpW gs X Y)) ([Str.ofString "equal"].map V.str) = _
          rw [inV_str]
          unfold ansC
          rw [if_neg (by decide), ← eX, ← eY]
          rw [Bool.eq_iff_iff]
          simp only [decide_eq_true_eq]
          exact Iff.rfl]
        exact q _ ((s12.trans s3).trans (same_new nL))
      · refine ⟨_, rfl, rfl, _, rfl, ?_⟩
        rw [decide_eq_true (show V.str (kwS 1) = V.str (Str.ofString "begins") from rfl)]
        refine iteT ⟨_, rfl, rfl, _, rfl, S Y, S X, rfl, rfl, ?_⟩
        rw [sw_pre]
        have := q H2 s12
        rw [show decide (X <+: Y) = ansC gs ws (.tpl 1 a0 b0 x y) by
          unfold ansC
          rw [if_neg (by decide), ← eX, ← eY]
          rw [Bool.eq_iff_iff]
          simp only [decide_eq_true_eq]
          exact cmp_pre.symm]
        exact this
      · refine ⟨_, rfl, rfl, _, rfl, ?_⟩
        rw [decide_eq_false (show ¬ V.str (kwS 2) = V.str (Str.ofString "begins") by decide +kernel)]
        refine iteF ⟨_, rfl, rfl, _, rfl, ?_⟩
        rw [decide_eq_true (show V.str (kwS 2) = V.str (Str.ofString "ends") from rfl)]
        refine iteT ⟨_, rfl, rfl, _, rfl, S Y, S X, rfl, rfl, ?_⟩
        rw [sw_suf]
        have := q H2 s12
        rw [show decide (X <:+ Y) = ansC gs ws (.tpl 2 a0 b0 x y) by
          unfold ansC
          rw [if_pos rfl, fill_rev hg rx, fill_rev hg ry, ← eX, ← eY]
          rw [Bool.eq_iff_iff]
          simp only [decide_eq_true_eq]
          rw [show holdW 2 = [Str.ofString "equal", Str.ofString "shorter"] from rfl, cmp_pre, List.reverse_prefix]]
        exact this
      · refine ⟨_, rfl, rfl, _, rfl, ?_⟩
        rw [decide_eq_false (show ¬ V.str (kwS 3) = V.str (Str.ofString "begins") by decide +kernel)]
        refine iteF ⟨_, rfl, rfl, _, rfl, ?_⟩
        rw [decide_eq_false (show ¬ V.str (kwS 3) = V.str (Str.ofString "ends") by decide +kernel)]
        refine iteF ?_
        refine ⟨_, rfl, _, rfl, _, rfl, gs, X, Y, rfl, by omega, by omega, mx, my, fun H3 s3 => ⟨_, rfl, rfl, _, rfl, ?_⟩⟩
        rw [decide_eq_false (show ¬ V.str (kwS 3) = V.str (Str.ofString "same") by decide +kernel)]
        refine ⟨by exact sz _ (by show 2 ≤ 2000; decide), fun L nL => ⟨L, _, rfl, .inl (sqL upd_same), rfl, rfl, ?_⟩⟩
        rw [show (if false = true then !inV (.str (cmpW gs X Y)) [.str (Str.ofString "shorter"), .str (Str.ofString "less")] else inV (.str (cmpW gs X Y)) [.str (Str.ofString "shorter"), .str (Str.ofString "less")]) = ansC gs ws (.tpl 3 a0 b0 x y) by
          show inV (.str (cmpW gs X Y)) ([Str.ofString "shorter", Str.ofString "less"].map V.str) = _
          rw [inV_str]
          unfold ansC
          rw [if_neg (by decide), ← eX, ← eY]
          rw [Bool.eq_iff_iff]
          simp only [decide_eq_true_eq]
          rw [show holdW 3 = [Str.ofString "less", Str.ofString "shorter"] from rfl]
          simp only [List.mem_cons, List.not_mem_nil, or_false]
          exact Or.comm]
        exact q _ ((s12.trans s3).trans (same_new nL))
end
end Own

namespace Own
open PySem PySem.Spec PyProof.Rows L2 SX RZ
section
variable {P : Program} {w : World} {K : PySem.W.Frag} {mg : Str → Option Value} {base : Heap}
def flatK : List Prg.Pr → List Prg.Pr
  | [] => []
  | p :: ks => elems p ++ ks
/-- what is left, its first program unfolded -/
def OpnH (H : Hp) : List Prg.Pr → List V → Prop
  | [], vals => vals = []
  | p :: ks, vals => ∃ vs r, vals = vs ++ r ∧ SqH H p vs ∧ Paired (PgH H) ks r
theorem paired_app2 {α β : Type} {F : α → β → Prop} {as2 : List α} {bs2 : List β} (h2 : Paired F as2 bs2) : ∀ {as : List α} {bs : List β}, Paired F as bs → Paired F (as ++ as2) (bs ++ bs2)
  | _, _, .nil => h2
  | _, _, .cons h t => .cons h (paired_app2 h2 t)
theorem OpnH.flat {H : Hp} : ∀ {ks : List Prg.Pr} {vals : List V}, OpnH H ks vals → Paired (PgH H) (flatK ks) vals
  | [], _, h => by cases h; exact .nil
  | p :: ks, _, ⟨vs, r, e, h, t⟩ => by
    subst e
    exact paired_app2 t (Paired.mapP (sq_elems h) fun _ v z => ⟨[v], z, .inl rfl⟩)
theorem OpnH.keep {H H' : Hp} (k : ∀ a xs, H a = some (.tup xs) → H' a = some (.tup xs)) : ∀ {ks : List Prg.Pr} {vals : List V}, OpnH H ks vals → OpnH H' ks vals
  | [], _, h => h
  | _ :: _, _, ⟨vs, r, e, h, t⟩ => ⟨vs, r, e, h.keep k, Paired.mapP t fun _ _ z => z.keep k⟩
theorem sq_first {H : Hp} {p : Prg.Pr} {v : V} {vs : List V} (h : SqH H p (v :: vs)) : ∃ a k xs, v = .ref a ∧ H a = some (.tup (.str k :: xs)) ∧ k ≠ Str.ofString "block" := by
  have q := sq_elems h
  generalize elems p = es at q
  cases q with
  | cons a t => exact sq_head a
def spLop : Sp := fun vs H Q _ => ∃ (R : Addr) (ks : List Prg.Pr) (vals : List V), vs = [.ref R] ∧ H R = some (.lst vals) ∧ Paired (PgH H) ks vals ∧ (∀ p ∈ ks, Prg.some? p = true ∧ Prg.size p ≤ 300) ∧ ks.length ≤ 600 ∧
  ∀ H' D vals', Same H H' → H D = none → H' D = some (.lst vals') → OpnH H' ks vals' → Q (.ref D) H'
abbrev sLop : Stmt := topS 86
abbrev lopN : List Str := ["_law_rest", "_law_found", "_law_k"]
theorem scLop : FnScope lopN ["_law_rest"] (defScope sLop) := ⟨rfl, rfl, rfl, by decide +kernel, rfl, by decide +kernel, by decide +kernel⟩
theorem ok_lop {f : Addr} {fd : FuncData} (F : Fun K "_law_open" "_law_open" sLop f fd) (m_list : mg "list" = none) (m_range : mg "range" = none) :
    FnOk P w K mg base CX0 1 f fd ["_law_rest"] spLop := by
  refine F.ok scLop (fun vs H Q E h => ?_) (fun cdv A outer s H vs Q E hr h => ?_)
  · obtain ⟨R, ks, vals, rfl, _⟩ := h
    rfl
  · obtain ⟨R, ks, vals, rfl, hR, hp, hs, hl, q⟩ := h
    refine ⟨_, (pss_cons (ps_set (i := 1) scLop.nd rfl (by first | exact .inl rfl | exact .inr rfl) (pe_callTy call_list_of (by rfl) m_list (by decide +kernel) (pa_cons (pv 0) pa_nil)))
      (pss_cons (ps_for PassesOwn.never rfl (pi_range1 rfl m_range (pa_cons pe_int pa_nil)) (pg_name (i := 2) scLop.nd rfl (by first | exact .inl rfl | exact .inr rfl))
        (pss_one (ps_if (PW.pt (pw_and (pt_cmpR (op_neE (Nat.lt_of_le_of_lt (Nat.le_add_right _ _) hr.units)) (pv 1) (pe_lst pa_nil) (nomark _)) (pw_and1 (pt_cmpR op_eq (pe_ix (ixT (K := K) rfl) (pe_ix (ixL (K := K) rfl) (pv 1) pe_int (fun _ _ => rfl)) pe_int (fun _ _ => rfl)) pe_str (nomark _))))) (pss_one (ps_set (i := 1) scLop.nd rfl (by first | exact .inl rfl | exact .inr rfl) (pe_op op_cat (pe_callTy call_list_of (by rfl) m_list (by decide +kernel) (pa_cons (pe_slice sl_tup (pe_ix (ixL (K := K) rfl) (pv 1) pe_int (fun _ _ => rfl)) (po_some pe_int) po_none) pa_nil)) (pe_slice sl_list (pv 1) (po_some pe_int) po_none)))) pss_nil)))
      (pss_one (ps_ret (pv 1))))), ?_⟩
    have sz : ∀ n : Nat, n ≤ 2000 → n ≤ sizeLine := fun n hn => by rw [sizeLine_eq]; omega
    have hvl : ks.length = vals.length := Paired.length hp
    refine ⟨_, rfl, R, vals, rfl, .inl (sqL hR), fun D nD => ?_⟩
    try dsimp only [gName, tSeq, tAsg, List.set_cons_zero, List.set_cons_succ]
    have s0 := same_new (o := .lst vals) nD
    refine ⟨60, rfl, by decide, by decide, ?_⟩
    refine for_range (lo := 0) (n := (60 : Int).toNat) (fun i σ H' => ∃ (v2 : Option V) (D' : Addr) (vals' : List V), σ = [some (.ref R), some (.ref D'), v2] ∧ Same H H' ∧ H D' = none ∧ H' D' = some (.lst vals') ∧ ((i = 0 ∧ vals' = vals) ∨ OpnH H' ks vals') ∧ vals'.length ≤ 1000)
      ⟨none, D, vals, rfl, s0, nD, upd_same, .inl ⟨rfl, rfl⟩, by omega⟩ ?_ ?_
    · rintro i σ H' hi ⟨v2, D', vals', rfl, s1, nD', hD', hJ, hlen⟩
      try dsimp only [gName, tSeq, tAsg, tNext, List.set_cons_zero, List.set_cons_succ]
      refine ⟨_, rfl, Nat.zero_le _, fun E0 nE => ?_⟩
      have sE := same_new (o := .lst []) nE
      have hE : upd H' E0 (.lst []) E0 = some (.lst []) := upd_same
      have hD2 := sE _ _ hD'
      have s2 := s1.trans sE
      generalize upd H' E0 (.lst []) = H2 at sE hE hD2 s2 ⊢
      have kt : ∀ a xs, H a = some (.tup xs) → H2 a = some (.tup xs) := fun a xs e => s2 _ _ e
      have kt' : ∀ a xs, H' a = some (.tup xs) → H2 a = some (.tup xs) := fun a xs e => sE _ _ e
      refine ⟨D', E0, vals', rfl, rfl, sqL hD2, sqL hE, _, rfl, ?_⟩
      cases vals' with
      | nil =>
        refine iteF ?_
        refine ⟨_, D', [], rfl, s2, nD', hD2, .inr ?_, Nat.zero_le _⟩
        rcases hJ with ⟨_, e⟩ | h
        · rw [← e] at hvl
          have : ks = [] := List.eq_nil_of_length_eq_zero hvl
          rw [this]; rfl
        · exact h.keep kt'
      | cons v r =>
        rw [decide_eq_true (show 0 < (v :: r).length from Nat.succ_pos _)]
        refine iteT ?_
        have head : (∃ a vs, v = .ref a ∧ H2 a = some (.tup (.str (Str.ofString "block") :: vs)) ∧ OpnH H2 ks (vs ++ r) ∧ (vs ++ r).length ≤ 1000) ∨ (∃ a k xs, v = .ref a ∧ H2 a = some (.tup (.str k :: xs)) ∧ k ≠ Str.ofString "block" ∧ OpnH H2 ks (v :: r)) := by
          rcases hJ with ⟨_, e⟩ | h
          · rw [← e] at hp hvl
            cases hp with
            | @cons p _ ks' _ hpv t =>
              obtain ⟨vs, hq, hb⟩ := hpv
              have t2 := Paired.mapP t fun _ _ z => z.keep kt
              have hq2 := hq.keep kt
              have vl := sq_len hq
              have hsz := (hs p (List.mem_cons_self ..)).2
              have hvl : ks'.length + 1 = r.length + 1 := hvl
              have hl : ks'.length + 1 ≤ 600 := hl
              rcases hb with rfl | ⟨_, a, rfl, ha⟩
              · obtain ⟨a, k, xs, e, h1, h2⟩ := sq_head hq2
                exact .inr ⟨a, k, xs, e, h1, h2, [v], r, rfl, hq2, t2⟩
              · exact .inl ⟨a, vs, rfl, kt _ _ ha, ⟨vs, r, rfl, hq2, t2⟩, by rw [List.length_append]; omega⟩
          · have h2 := h.keep kt'
            cases ks with
            | nil => cases h
            | cons p ks' =>
              obtain ⟨vs, r', e, hq, t⟩ := id h2
              cases vs with
              | nil => exact absurd (sq_pos hq (hs p (List.mem_cons_self ..)).1) (by decide)
              | cons w vs0 =>
                have e' : v = w := by injection e
                subst e'
                obtain ⟨a, k, xs, e3, h3, h4⟩ := sq_first hq
                exact .inr ⟨a, k, xs, e3, h3, h4, h2⟩
        rcases head with ⟨a, vs, rfl, ha, hO, hol⟩ | ⟨a, k, xs, rfl, ha, hk, hO⟩
        · refine ⟨_, rfl, D', _, 0, _, rfl, rfl, sqL hD2, atI_nat (j := 0) rfl, a, _, 0, _, rfl, rfl, sqT ha, atI_nat (j := 0) rfl, rfl, _, rfl, ?_⟩
          rw [decide_eq_true rfl]
          refine iteT ?_
          refine ⟨_, rfl, D', _, 0, _, rfl, rfl, sqL hD2, atI_nat (j := 0) rfl, _, rfl, a, _, rfl, sqT ha, ?_, fun P1 nP1 => ?_⟩
          · intro h
            have := h.1
            rw [show (some (1 : Int)) = some ((1 : Nat) : Int) from rfl, HT.sIx_nat, List.length_cons] at this
            omega
          rw [cut_tl]
          have sP := same_new (o := .tup vs) nP1
          have hP : upd H2 P1 (.tup vs) P1 = some (.tup vs) := upd_same
          generalize upd H2 P1 (.tup vs) = H3 at sP hP ⊢
          refine ⟨P1, vs, rfl, .inr (sqT hP), fun L1 nL1 => ?_⟩
          have sL1 := same_new (o := .lst vs) nL1
          have hL1 : upd H3 L1 (.lst vs) L1 = some (.lst vs) := upd_same
          generalize upd H3 L1 (.lst vs) = H4 at sL1 hL1 ⊢
          refine ⟨_, rfl, _, rfl, D', _, rfl, sqL (sL1 _ _ (sP _ _ hD2)), fun L2 nL2 => ?_⟩
          rw [cut_tl]
          have sL2 := same_new (o := .lst r) nL2
          refine ⟨L1, L2, vs, r, rfl, rfl, sL2 _ _ hL1, upd_same, by rw [List.length_append] at hol; exact sz _ (by omega), fun D2 nD2 => ?_⟩
          have s25 := ((sP.trans sL1).trans sL2).trans (same_new (o := .lst (vs ++ r)) nD2)
          have sAll := (s2.trans ((sP.trans sL1).trans sL2))
          refine ⟨_, D2, vs ++ r, rfl, s2.trans s25, ?_, upd_same, .inr (hO.keep fun b xs e => s25 _ _ e), hol⟩
          cases e : H D2 with
          | none => rfl
          | some o => rw [sAll _ _ e] at nD2; cases nD2
        · refine ⟨_, rfl, D', _, 0, _, rfl, rfl, sqL hD2, atI_nat (j := 0) rfl, a, _, 0, _, rfl, rfl, sqT ha, atI_nat (j := 0) rfl, rfl, _, rfl, ?_⟩
          rw [decide_eq_false (fun e => hk (V.str.inj e))]
          refine iteF ?_
          exact ⟨_, D', _, rfl, s2, nD', hD2, .inr hO, hlen⟩
    · rintro σ H' ⟨v2, D', vals', rfl, s1, nD', hD', hJ, hlen⟩
      rcases hJ with ⟨e, _⟩ | h
      · exact absurd e (by decide)
      · exact ⟨_, rfl, q _ D' vals' s1 nD' hD' h⟩
end
end Own

namespace Own
open PySem PySem.Spec PyProof.Rows L2 SX RZ
section
variable {P : Program} {w : World} {K : PySem.W.Frag} {mg : Str → Option Value} {base : Heap}
/-- the law's own state of a run; L: the run's list of earlier states, another one -/
def LawS (H : Hp) (s : RS) (n : Nat) (L : Addr) (v : V) : Prop := ∃ (S R FL ML : Addr) (vals fl ml : List V), v = .ref S ∧ H S = some (.lst [.ref R, tx s.w, wordV s.f, .ref FL, .ref ML]) ∧ H R = some (.lst vals) ∧ H FL = some (.lst fl) ∧ H ML = some (.lst ml) ∧
  (s.f = none → OpnH H s.ks vals) ∧ vals.length ≤ 40 * (n + 1) ∧ fl.length ≤ n ∧ ml.length ≤ n ∧ S ≠ L ∧ R ≠ L ∧ FL ≠ L ∧ ML ≠ L
theorem opn_nil {H : Hp} {ks : List Prg.Pr} {vals : List V} (h : OpnH H ks vals) (hs : ∀ p ∈ ks, Prg.some? p = true) : 0 < vals.length ↔ ks ≠ [] := by
  cases ks with
  | nil => cases h; exact ⟨fun z => absurd z (by decide), fun z => absurd rfl z⟩
  | cons p ks =>
    obtain ⟨vs, r, rfl, hq, _⟩ := h
    have := sq_pos hq (hs p (List.mem_cons_self ..))
    exact ⟨fun _ => (fun z => nomatch z), fun _ => by rw [List.length_append]; omega⟩
def spLsa : Sp := fun vs H Q _ => ∃ (s : RS) (n : Nat) (L : Addr) (v : V), vs = [v] ∧ LawS H s n L v ∧ (∀ p ∈ s.ks, Prg.some? p = true) ∧ ∀ H', Same H H' → Q (stV s) H'
abbrev sLsa : Stmt := topS 88
abbrev lsaN : List Str := ["_law_state_here"]
theorem scLsa : FnScope lsaN ["_law_state_here"] (defScope sLsa) := ⟨rfl, rfl, rfl, by decide +kernel, rfl, by decide +kernel, by decide +kernel⟩
theorem ok_lsa {f : Addr} {fd : FuncData} (F : Fun K "_law_state" "_law_state" sLsa f fd) :
    FnOk P w K mg base CX0 1 f fd ["_law_state_here"] spLsa := by
  refine F.ok scLsa (fun vs H Q E h => ?_) (fun cdv A outer s H vs Q E hr h => ?_)
  · obtain ⟨s, n, L, v, rfl, _⟩ := h
    rfl
  · obtain ⟨st, n, L, v, rfl, hS, hs, q⟩ := h
    refine ⟨_, (pss_one (ps_ret (pe_ifExp (pt_cmpR op_notN (pe_ix (ixL (K := K) rfl) (pv 0) pe_int (fun _ _ => rfl)) pe_non (nomark _)) pe_str (pe_ifExp (pt_cmpR (op_neE (Nat.lt_of_le_of_lt (Nat.le_add_right _ _) hr.units)) (pe_ix (ixL (K := K) rfl) (pv 0) pe_int (fun _ _ => rfl)) (pe_lst pa_nil) (nomark _)) pe_str pe_str)))), ?_⟩
    obtain ⟨S0, R, FL, ML, vals, fl, ml, rfl, h1, h2, h3, h4, h5, h6, _⟩ := hS
    refine ⟨_, rfl, S0, _, 2, _, rfl, rfl, sqL h1, atI_nat (j := 2) rfl, rfl, _, rfl, ?_⟩
    obtain ⟨w, ks, f⟩ := st
    cases f with
    | some m =>
      rw [decide_eq_false (by show ¬ tx m = V.non; exact fun z => nomatch z)]
      exact q _ (Same.refl _)
    | none =>
      rw [decide_eq_true (show wordV none = V.non from rfl)]
      refine iteF ⟨_, rfl, S0, _, 0, _, rfl, rfl, sqL h1, atI_nat (j := 0) rfl, Nat.zero_le _, fun E0 nE => ?_⟩
      have sE := same_new (o := .lst []) nE
      refine ⟨R, E0, vals, rfl, rfl, sqL (sE _ _ h2), sqL upd_same, _, rfl, ?_⟩
      have key := opn_nil (h5 rfl) hs
      cases ks with
      | nil =>
        rw [decide_eq_false (fun z => key.mp z rfl)]
        exact q _ sE
      | cons p r =>
        rw [decide_eq_true (key.mpr (fun z => nomatch z))]
        exact q _ sE
end
end Own

namespace Own
open PySem PySem.Spec PyProof.Rows L2 SX RZ
section
variable {P : Program} {w : World} {K : PySem.W.Frag} {mg : Str → Option Value} {base : Heap}
def spLss : Sp := fun vs H Q _ => ∃ (p : Prg.Pr) (v : V) (ws : List Nat) (L : Addr), vs = [v, tx ws] ∧ PgH H p v ∧ Prg.some? p = true ∧ Prg.size p ≤ 30 ∧ H L ≠ none ∧ ∀ H' r, Same H H' → LawS H' ⟨ws, [p], none⟩ 0 L r → Q r H'
abbrev sLss : Stmt := topS 87
abbrev lssN : List Str := ["_law_my_program", "_law_shown"]
theorem scLss : FnScope lssN ["_law_my_program", "_law_shown"] (defScope sLss) := ⟨rfl, rfl, rfl, by decide +kernel, rfl, by decide +kernel, by decide +kernel⟩
theorem ok_lss {f : Addr} {fd : FuncData} (F : Fun K "_law_start" "_law_start" sLss f fd) {f1 : Addr} {fd1 : FuncData} (c1 : Cl P w K mg base "_law_open" 1 ["_law_rest"] spLop f1 fd1) :
    FnOk P w K mg base CX0 2 f fd ["_law_my_program", "_law_shown"] spLss := by
  refine F.ok scLss (fun vs H Q E h => ?_) (fun cdv A outer s H vs Q E hr h => ?_)
  · obtain ⟨p, v, ws, L, rfl, _⟩ := h
    rfl
  · obtain ⟨p, v, ws, L, rfl, hp, hs, hz, hL, q⟩ := h
    refine ⟨_, (pss_one (ps_ret (pe_lst (pa_cons (pe_cl c1 hr (by decide) (by rfl) (pa_cons (pe_lst (pa_cons (pv 0) pa_nil)) pa_nil)) (pa_cons (pv 1) (pa_cons pe_non (pa_cons (pe_lst pa_nil) (pa_cons (pe_lst pa_nil) pa_nil)))))))), ?_⟩
    have sz : ∀ n : Nat, n ≤ 2000 → n ≤ sizeLine := fun n hn => by rw [sizeLine_eq]; omega
    refine ⟨_, rfl, by show 1 ≤ sizeLine; exact sz _ (by decide), fun R0 nR0 => ?_⟩
    have s0 := same_new (o := .lst [v]) nR0
    have back : ∀ {Ha Hb : Hp} {b : Addr}, Same Ha Hb → Hb b = none → Ha b = none := fun {Ha Hb b} s n => by
      cases e : Ha b with
      | none => rfl
      | some o => rw [s _ _ e] at n; cases n
    have neL : ∀ {Ha : Hp} {b : Addr}, Same H Ha → Ha b = none → b ≠ L := fun s n e => hL (back s (e ▸ n))
    refine ⟨R0, [p], [v], rfl, upd_same, .cons (hp.keep fun a xs e => s0 _ _ e) .nil, (fun y hy => by rw [List.mem_singleton.mp hy]; exact ⟨hs, by omega⟩), by show 1 ≤ 600; decide, fun H1 D vals s1 nD hD hO => ?_⟩
    have s01 := s0.trans s1
    refine ⟨_, rfl, Nat.zero_le _, fun FL nFL => ?_⟩
    have s2 := same_new (o := .lst []) nFL
    have hFL : upd H1 FL (.lst []) FL = some (.lst []) := upd_same
    generalize upd H1 FL (.lst []) = H2 at s2 hFL ⊢
    refine ⟨Nat.zero_le _, fun ML nML => ?_⟩
    have s3 := same_new (o := .lst []) nML
    have hML : upd H2 ML (.lst []) ML = some (.lst []) := upd_same
    generalize upd H2 ML (.lst []) = H3 at s3 hML ⊢
    refine ⟨by show 5 ≤ sizeLine; exact sz _ (by decide), fun S0 nS0 => ?_⟩
    have s4 := same_new (o := .lst [V.ref D, tx ws, .non, .ref FL, .ref ML]) nS0
    have s23 := (s2.trans s3).trans s4
    refine q _ _ (((s01.trans s2).trans s3).trans s4) ⟨S0, D, FL, ML, vals, [], [], rfl, upd_same, s23 _ _ hD, s4 _ _ (s3 _ _ hFL), s4 _ _ hML, fun _ => hO.keep fun a xs e => s23 _ _ e, ?_, Nat.le_refl _, Nat.le_refl _, neL ((s01.trans s2).trans s3) nS0, neL s0 nD, neL s01 nFL, neL (s01.trans s2) nML⟩
    obtain ⟨vs, r, rfl, hq, t⟩ := hO
    have := sq_len hq
    have tl := Paired.length t
    rw [List.length_append]
    have tl : 0 = r.length := tl
    omega
end
end Own

namespace Own
open PySem PySem.Spec PyProof.Rows L2 SX RZ
section
variable {P : Program} {w : World} {K : PySem.W.Frag} {mg : Str → Option Value} {base : Heap}
theorem allC_el {A : Cnd.Cd → Prop} : ∀ {p : Prg.Pr}, AllC A p → ∀ e ∈ elems p, AllC A e
  | .nil, _, _, h => nomatch h
  | .leaf l r, h, e, he => (List.mem_cons.mp he).elim (fun z => by rw [z]; exact True.intro) fun z => allC_el (p := r) h e z
  | .whil c p r, ⟨a, b, d⟩, e, he => (List.mem_cons.mp he).elim (fun z => by rw [z]; exact ⟨a, b, True.intro⟩) fun z => allC_el (p := r) d e z
  | .cond c p q r, ⟨a, b, d, f⟩, e, he => (List.mem_cons.mp he).elim (fun z => by rw [z]; exact ⟨a, b, d, True.intro⟩) fun z => allC_el (p := r) f e z
theorem opn_len {H : Hp} {ks : List Prg.Pr} {vals : List V} (h : OpnH H ks vals) (hz : ∀ p ∈ ks, Prg.size p ≤ 30) : vals.length ≤ 30 + ks.length := by
  cases ks with
  | nil => cases h; exact Nat.zero_le _
  | cons p ks =>
    obtain ⟨vs, r, rfl, hq, t⟩ := h
    have l1 := sq_len hq
    have l2 := hz p (List.mem_cons_self ..)
    have l3 := Paired.length t
    rw [List.length_append, List.length_cons]; omega
def spLse : Sp := fun vs H Q _ => ∃ (gs : List Nat) (s : RS) (n : Nat) (L : Addr) (v : V), vs = [tx gs, v] ∧ Good gs ∧ LawS H s n L v ∧ GoS gs s ∧ (∀ p ∈ s.ks, AllC (OkA gs) p ∧ Prg.size p ≤ 30) ∧ n ≤ 12 ∧ H L ≠ none ∧ ∀ H' r, Same H H' → LawS H' (stepS gs s) (n + 1) L r → Q r H'
abbrev sLse : Stmt := topS 85
abbrev lseN : List Str := ["_law_signs", "_law_state_here", "_law_rest", "_law_shown", "_law_word_here", "_law_fills", "_law_moments", "_law_node", "_law_good"]
theorem scLse : FnScope lseN ["_law_signs", "_law_state_here"] (defScope sLse) := ⟨rfl, rfl, rfl, by decide +kernel, rfl, by decide +kernel, by decide +kernel⟩
theorem ok_lse {f : Addr} {fd : FuncData} (F : Fun K "_law_step" "_law_step" sLse f fd) {f1 : Addr} {fd1 : FuncData} (c1 : Cl P w K mg base "_law_open" 1 ["_law_rest"] spLop f1 fd1) {f2 : Addr} {fd2 : FuncData} (c2 : Cl P w K mg base "_law_filled" 3 ["_law_signs", "_law_fill_here", "_law_shown"] spLfd f2 fd2) {f3 : Addr} {fd3 : FuncData} (c3 : Cl P w K mg base "_law_asked" 4 ["_law_signs", "_law_condition", "_law_shown"] spLas f3 fd3) :
    FnOk P w K mg base CX0 5 f fd ["_law_signs", "_law_state_here"] spLse := by
  refine F.ok scLse (fun vs H Q E h => ?_) (fun cdv A outer s H vs Q E hr h => ?_)
  · obtain ⟨gs, s, n, L, v, rfl, _⟩ := h
    rfl
  · obtain ⟨gs, st, n, L, v, rfl, hg, hS, hgo, hA, hn, hL, q⟩ := h
    refine ⟨_, (pss_cons (ps_asg (pv 1) (pg_lst rfl (pgs_cons (pg_name (i := 2) scLse.nd rfl (by first | exact .inl rfl | exact .inr rfl)) (pgs_cons (pg_name (i := 3) scLse.nd rfl (by first | exact .inl rfl | exact .inr rfl)) (pgs_cons (pg_name (i := 4) scLse.nd rfl (by first | exact .inl rfl | exact .inr rfl)) (pgs_cons (pg_name (i := 5) scLse.nd rfl (by first | exact .inl rfl | exact .inr rfl)) (pgs_cons (pg_name (i := 6) scLse.nd rfl (by first | exact .inl rfl | exact .inr rfl)) pgs_nil)))))))
      (pss_cons (ps_par (i := 7) (j := 2) (by rfl) scLse.nd rfl rfl (by decide) rfl rfl (pa_cons (pe_ix (ixL (K := K) rfl) (pv 2) pe_int (fun _ _ => rfl)) (pa_cons (pe_slice sl_list (pv 2) (po_some pe_int) po_none) pa_nil)) (by rfl))
      (pss_cons (ps_if (pt_cmpR op_eq (pe_ix (ixT (K := K) rfl) (pv 7) pe_int (fun _ _ => rfl)) pe_str (nomark _)) (pss_one (ps_ret (pe_lst (pa_cons (pe_cl c1 hr (by decide) (by rfl) (pa_cons (pv 2) pa_nil)) (pa_cons (pe_cl c2 hr (by decide) (by rfl) (pa_cons (pv 0) (pa_cons (pe_ix (ixT (K := K) rfl) (pv 7) pe_int (fun _ _ => rfl)) (pa_cons (pv 3) pa_nil)))) (pa_cons (pv 4) (pa_cons (pe_op op_cat (pv 5) (pe_lst (pa_cons (pe_ix (ixT (K := K) rfl) (pv 7) pe_int (fun _ _ => rfl)) pa_nil))) (pa_cons (pv 6) pa_nil)))))))) pss_nil)
      (pss_cons (ps_if (pt_cmpR op_eq (pe_ix (ixT (K := K) rfl) (pv 7) pe_int (fun _ _ => rfl)) pe_str (nomark _)) (pss_one (ps_ret (pe_lst (pa_cons (pv 2) (pa_cons (pv 3) (pa_cons (pe_ix (ixT (K := K) rfl) (pv 7) pe_int (fun _ _ => rfl)) (pa_cons (pv 5) (pa_cons (pv 6) pa_nil)))))))) pss_nil)
      (pss_cons (ps_if (pt_cmpR op_eq (pe_ix (ixT (K := K) rfl) (pv 7) pe_int (fun _ _ => rfl)) pe_str (nomark _)) (pss_one (ps_ret (pe_lst (pa_cons (pe_cl c1 hr (by decide) (by rfl) (pa_cons (pv 2) pa_nil)) (pa_cons (pv 3) (pa_cons (pv 4) (pa_cons (pv 5) (pa_cons (pv 6) pa_nil)))))))) pss_nil)
      (pss_cons (ps_set (i := 8) scLse.nd rfl (by first | exact .inl rfl | exact .inr rfl) (pe_cl c3 hr (by decide) (by rfl) (pa_cons (pv 0) (pa_cons (pe_ix (ixT (K := K) rfl) (pv 7) pe_int (fun _ _ => rfl)) (pa_cons (pv 3) pa_nil)))))
      (pss_cons (ps_if (pt_cmpR op_eq (pe_ix (ixT (K := K) rfl) (pv 7) pe_int (fun _ _ => rfl)) pe_str (nomark _)) (pss_one (ps_ret (pe_lst (pa_cons (pe_cl c1 hr (by decide) (by rfl) (pa_cons (pe_op op_cat (pe_lst (pa_cons (pe_ifExp (pt_val (pv 8)) (pe_ix (ixT (K := K) rfl) (pv 7) pe_int (fun _ _ => rfl)) (pe_ix (ixT (K := K) rfl) (pv 7) pe_int (fun _ _ => rfl))) pa_nil)) (pv 2)) pa_nil)) (pa_cons (pv 3) (pa_cons (pv 4) (pa_cons (pv 5) (pa_cons (pv 6) pa_nil)))))))) pss_nil)
      (pss_cons (ps_set (i := 2) scLse.nd rfl (by first | exact .inl rfl | exact .inr rfl) (pe_ifExp (pt_val (pv 8)) (pe_op op_cat (pe_lst (pa_cons (pe_ix (ixT (K := K) rfl) (pv 7) pe_int (fun _ _ => rfl)) (pa_cons (pv 7) pa_nil))) (pv 2)) (pv 2)))
      (pss_one (ps_ret (pe_lst (pa_cons (pe_cl c1 hr (by decide) (by rfl) (pa_cons (pv 2) pa_nil)) (pa_cons (pv 3) (pa_cons (pv 4) (pa_cons (pv 5) (pa_cons (pe_op op_cat (pv 6) (pe_lst (pa_cons (pv 3) pa_nil))) pa_nil)))))))))))))))), ?_⟩
    have sz : ∀ n : Nat, n ≤ 2000 → n ≤ sizeLine := fun n hn => by rw [sizeLine_eq]; omega
    obtain ⟨S0, R, FL, ML, vals, fl, ml, rfl, h1, h2, h3, h4, h5, h6, h7, h8, n1, n2, n3, n4⟩ := hS
    obtain ⟨ws, ks, f⟩ := st
    obtain ⟨⟨hm, ok⟩, hl, hf, hk⟩ := id hgo
    cases hf
    have hO := h5 rfl
    have hl : ws.length ≤ 300 := hl
    have hm : ∀ c ∈ ws, c ∈ gs := hm
    cases ks with
    | nil => exact absurd rfl hk
    | cons p ks =>
    obtain ⟨vs, r, rfl, hq, ht⟩ := hO
    have hE := sq_elems hq
    obtain ⟨okp, smp, _⟩ := ok p (List.mem_cons_self ..)
    obtain ⟨aP, zP⟩ := hA p (List.mem_cons_self ..)
    obtain ⟨e, es, ee⟩ := elems_some smp
    have allE : ∀ x ∈ elems p, (OkP gs x ∧ Prg.some? x = true) ∧ AllC (OkA gs) x ∧ Prg.size x ≤ 30 := fun x hx => ⟨ok_elems okp x hx, allC_el aP x hx, Nat.le_trans (el_size hx) zP⟩
    rw [ee] at hE allE
    cases hE with
    | @cons _ v _ vs' he hes =>
    have hrest : Paired (PgH H) (es ++ ks) (vs' ++ r) := paired_app2 ht (Paired.mapP hes fun _ w z => ⟨[w], z, .inl rfl⟩)
    obtain ⟨⟨oke, sme⟩, aE, zE⟩ := allE e (List.mem_cons_self ..)
    have okR : ∀ x ∈ es ++ ks, Prg.some? x = true ∧ Prg.size x ≤ 30 := fun x hx => by
      rcases List.mem_append.mp hx with h | h
      · obtain ⟨⟨_, a⟩, _, b⟩ := allE x (List.mem_cons_of_mem _ h)
        exact ⟨a, b⟩
      · exact ⟨(ok x (List.mem_cons_of_mem _ h)).2.1, (hA x (List.mem_cons_of_mem _ h)).2⟩
    have rl := Paired.length hrest
    have vl : (vs' ++ r).length + 1 ≤ 40 * (n + 1) := by
      have : ((v :: vs') ++ r).length ≤ 40 * (n + 1) := h6
      exact this
    have est : elems p ++ ks = e :: (es ++ ks) := by rw [ee]; rfl
    have back : ∀ {Ha Hb : Hp} {b : Addr}, Same Ha Hb → Hb b = none → Ha b = none := fun {Ha Hb b} s n => by
      cases e : Ha b with
      | none => rfl
      | some o => rw [s _ _ e] at n; cases n
    have neL : ∀ {Ha : Hp} {b : Addr}, Same H Ha → Ha b = none → b ≠ L := fun s n e => hL (back s (e ▸ n))
    have fin : ∀ (H2 : Hp) (D' FL' ML' : Addr) (vals' fl' ml' : List V) (s' : RS), Same H H2 → H2 D' = some (.lst vals') → H2 FL' = some (.lst fl') → H2 ML' = some (.lst ml') → (s'.f = none → OpnH H2 s'.ks vals') → vals'.length ≤ 40 * (n + 1 + 1) → fl'.length ≤ n + 1 → ml'.length ≤ n + 1 → D' ≠ L → FL' ≠ L → ML' ≠ L → stepS gs ⟨ws, p :: ks, none⟩ = s' →
        5 ≤ sizeLine ∧ ∀ S1, H2 S1 = none → Q (.ref S1) (upd H2 S1 (.lst [.ref D', tx s'.w, wordV s'.f, .ref FL', .ref ML'])) := fun H2 D' FL' ML' vals' fl' ml' s' s2 a b c d e1 e2 e3 e4 e5 e6 e7 => ⟨sz _ (by decide), fun S1 nS => by
      have sS := same_new (o := .lst [V.ref D', tx s'.w, wordV s'.f, .ref FL', .ref ML']) nS
      refine q _ _ (s2.trans sS) ?_
      rw [e7]
      exact ⟨S1, D', FL', ML', vals', fl', ml', rfl, upd_same, sS _ _ a, sS _ _ b, sS _ _ c, fun z => (d z).keep fun a xs e => sS _ _ e, e1, e2, e3, neL s2 nS, e4, e5, e6⟩⟩
    refine ⟨_, rfl, S0, _, rfl, sqL h1, rfl, _, _, rfl, _, _, rfl, _, _, rfl, _, _, rfl, _, _, rfl, rfl, ?_⟩
    try dsimp only [gName, tSeq, tAsg, List.set_cons_zero, List.set_cons_succ]
    refine ⟨_, rfl, R, _, 0, _, rfl, rfl, sqL h2, atI_nat (j := 0) rfl, _, rfl, _, rfl, R, _, rfl, sqL h2, fun D nD => ⟨_, _, rfl, ?_⟩⟩
    rw [show cutV ((v :: vs') ++ r) (some 1) none = vs' ++ r from cut_tl]
    have sD := same_new (o := .lst (vs' ++ r)) nD
    have hD : upd H D (.lst (vs' ++ r)) D = some (.lst (vs' ++ r)) := upd_same
    have nDL := neL (Same.refl _) nD
    generalize upd H D (.lst (vs' ++ r)) = H1 at sD hD ⊢
    try dsimp only [gName, tSeq, tAsg, List.set_cons_zero, List.set_cons_succ]
    have s1 := sD
    have hFL := sD _ _ h3
    have hML := sD _ _ h4
    have okR3 : ∀ x ∈ es ++ ks, Prg.some? x = true ∧ Prg.size x ≤ 300 := fun x hx => ⟨(okR x hx).1, Nat.le_trans (okR x hx).2 (by decide)⟩
    have hr1 : Paired (PgH H1) (es ++ ks) (vs' ++ r) := Paired.mapP hrest fun _ _ z => z.keep fun a xs e => s1 _ _ e
    cases e with
    | nil => exact nomatch sme
    | leaf lf rr =>
      obtain ⟨v', us, e1, hlf, _⟩ := he
      cases e1
      cases lf with
      | fill a0 x =>
        obtain ⟨b, rfl, hb⟩ := hlf
        have hb1 := s1 _ _ hb
        refine ⟨_, rfl, b, _, 0, _, rfl, rfl, sqT hb1, atI_nat (j := 0) rfl, rfl, _, rfl, ?_⟩
        rw [decide_eq_true rfl]
        refine iteT ⟨_, rfl, D, es ++ ks, vs' ++ r, rfl, hD, hr1, okR3, by omega, fun H2 D2 vals2 s2 nD2' hD2 hO2 => ?_⟩
        have nD2 := neL s1 nD2'
        have l2 := opn_len hO2 fun x hx => (okR x hx).2
        refine ⟨_, rfl, _, rfl, b, _, 1, _, rfl, rfl, sqT (s2 _ _ hb1), atI_nat (j := 1) rfl, _, rfl, gs, x, ws, 3, rfl, hg, oke.1, by decide, by omega, hm, fun H3 s3 => ?_⟩
        refine ⟨_, rfl, _, rfl, _, rfl, b, _, 1, _, rfl, rfl, sqT (s3 _ _ (s2 _ _ hb1)), atI_nat (j := 1) rfl, by show 1 ≤ sizeLine; exact sz _ (by decide), fun N1 nN1 => ?_⟩
        have s4 := same_new (o := .lst [tx x]) nN1
        have s14 := (s2.trans s3).trans s4
        refine ⟨FL, N1, fl, _, rfl, rfl, s14 _ _ hFL, upd_same, sz _ (by show fl.length + 1 ≤ 2000; omega), fun F2 nF2 => ?_⟩
        have s5 := same_new (o := .lst (fl ++ [tx x])) nF2
        refine ⟨_, rfl, ?_⟩
        exact fin _ D2 F2 ML vals2 (fl ++ [tx x]) ml ⟨fillX gs x ws, es ++ ks, none⟩ (s1.trans (s14.trans s5)) (s5 _ _ (s4 _ _ (s3 _ _ hD2))) upd_same (s5 _ _ (s14 _ _ hML)) (fun _ => hO2.keep fun a xs e => s5 _ _ (s4 _ _ (s3 _ _ e))) (by omega) (by rw [List.length_append]; show fl.length + 1 ≤ n + 1; omega) (by omega) nD2 (neL (s1.trans s14) nF2) n4 (by unfold stepS; dsimp only; rw [est])
      | skip =>
        obtain ⟨b, rfl, hb⟩ := hlf
        have hb1 := s1 _ _ hb
        refine ⟨_, rfl, b, _, 0, _, rfl, rfl, sqT hb1, atI_nat (j := 0) rfl, rfl, _, rfl, ?_⟩
        rw [decide_eq_false (by decide +kernel)]
        refine iteF ⟨_, rfl, b, _, 0, _, rfl, rfl, sqT hb1, atI_nat (j := 0) rfl, rfl, _, rfl, ?_⟩
        rw [decide_eq_false (by decide +kernel)]
        refine iteF ⟨_, rfl, b, _, 0, _, rfl, rfl, sqT hb1, atI_nat (j := 0) rfl, rfl, _, rfl, ?_⟩
        rw [decide_eq_true rfl]
        refine iteT ⟨_, rfl, D, es ++ ks, vs' ++ r, rfl, hD, hr1, okR3, by omega, fun H2 D2 vals2 s2 nD2' hD2 hO2 => ?_⟩
        have nD2 := neL s1 nD2'
        have l2 := opn_len hO2 fun x hx => (okR x hx).2
        refine ⟨_, rfl, _, rfl, _, rfl, _, rfl, ?_⟩
        exact fin _ D2 FL ML vals2 fl ml ⟨ws, es ++ ks, none⟩ (s1.trans s2) hD2 (s2 _ _ hFL) (s2 _ _ hML) (fun _ => hO2) (by omega) (by omega) (by omega) nD2 n3 n4 (by unfold stepS; dsimp only; rw [est])
      | fail nm =>
        obtain ⟨b, rfl, hb⟩ := hlf
        have hb1 := s1 _ _ hb
        refine ⟨_, rfl, b, _, 0, _, rfl, rfl, sqT hb1, atI_nat (j := 0) rfl, rfl, _, rfl, ?_⟩
        rw [decide_eq_false (by decide +kernel)]
        refine iteF ⟨_, rfl, b, _, 0, _, rfl, rfl, sqT hb1, atI_nat (j := 0) rfl, rfl, _, rfl, ?_⟩
        rw [decide_eq_true rfl]
        refine iteT ⟨_, rfl, _, rfl, _, rfl, b, _, 1, _, rfl, rfl, sqT hb1, atI_nat (j := 1) rfl, _, rfl, _, rfl, ?_⟩
        exact fin _ D FL ML (vs' ++ r) fl ml ⟨ws, [], some nm⟩ s1 hD hFL hML (fun z => nomatch z) (by omega) (by omega) (by omega) nDL n3 n4 (by unfold stepS; dsimp only; rw [est])
      | call nm => exact oke.1.elim
    | whil c q1 rr =>
      obtain ⟨b, x, y, ys, us, e1, hb, hcx, hq1, hb1, _⟩ := id he
      cases e1
      obtain ⟨okc, sq, okq, _⟩ := oke
      obtain ⟨ac, aq, _⟩ := aE
      have zE : Prg.size q1 + Prg.size rr + 1 ≤ 30 := zE
      have hbT := s1 _ _ hb
      refine ⟨_, rfl, b, _, 0, _, rfl, rfl, sqT hbT, atI_nat (j := 0) rfl, rfl, _, rfl, ?_⟩
      rw [decide_eq_false (by decide +kernel)]
      refine iteF ⟨_, rfl, b, _, 0, _, rfl, rfl, sqT hbT, atI_nat (j := 0) rfl, rfl, _, rfl, ?_⟩
      rw [decide_eq_false (by decide +kernel)]
      refine iteF ⟨_, rfl, b, _, 0, _, rfl, rfl, sqT hbT, atI_nat (j := 0) rfl, rfl, _, rfl, ?_⟩
      rw [decide_eq_false (by decide +kernel)]
      refine iteF ?_
      refine ⟨_, rfl, _, rfl, b, _, 1, _, rfl, rfl, sqT hbT, atI_nat (j := 1) rfl, _, rfl, gs, c, x, ws, rfl, hg, hcx.same s1, ac, hl, hm, fun H2 s2 => ?_⟩
      have s12 := s1.trans s2
      have hb2 := s2 _ _ hbT
      try dsimp only [gName, tSeq, tAsg, List.set_cons_zero, List.set_cons_succ]
      refine ⟨_, rfl, b, _, 0, _, rfl, rfl, sqT hb2, atI_nat (j := 0) rfl, rfl, _, rfl, ?_⟩
      rw [decide_eq_false (by decide +kernel)]
      refine iteF ?_
      try dsimp only [gName, tSeq, tAsg, tNext, List.set_cons_zero, List.set_cons_succ]
      have nH2L : ∀ {b : Addr}, H2 b = none → b ≠ L := fun n => neL s12 n
      have hD2 := s2 _ _ hD
      have hFL2 := s2 _ _ hFL
      have hML2 := s2 _ _ hML
      have hr2 : Paired (PgH H2) (es ++ ks) (vs' ++ r) := Paired.mapP hrest fun _ _ z => z.keep fun a xs e => s12 _ _ e
      have last : ∀ (H3 : Hp) (D3 : Addr) (qs : List Prg.Pr) (us : List V), Same H2 H3 → H3 D3 = some (.lst us) → Paired (PgH H3) qs us → (∀ x ∈ qs, Prg.some? x = true ∧ Prg.size x ≤ 30) → qs.length ≤ 40 * (n + 1) + 1 → stepS gs ⟨ws, p :: ks, none⟩ = ⟨ws, qs, none⟩ →
          tRet (tLst (tCons (tCall spLop [] E0 (tCons (tVar 2) tNil)) (tCons (tVar 3) (tCons (tVar 4) (tCons (tVar 5) (tCons (tOp rCat (tVar 6) (tLst (tCons (tVar 3) tNil))) tNil)))))) { nx := fun x H' => Q V.non H', rt := Q }
            [some (tx gs), some (.ref S0), some (.ref D3), some (tx ws), some (wordV none), some (.ref FL), some (.ref ML), some (.ref b), some (.bl (ansC gs ws c))] H3 := by
        intro H3 D3 qs us s3 hd3 hp3 ok3 ln3 st3
        refine ⟨_, rfl, D3, qs, us, rfl, hd3, hp3, (fun x hx => ⟨(ok3 x hx).1, Nat.le_trans (ok3 x hx).2 (by decide)⟩), by omega, fun H4 D4 vals4 s4 nD4 hD4 hO4 => ?_⟩
        have l4 := opn_len hO4 fun x hx => (ok3 x hx).2
        have nD4' := neL (s12.trans s3) nD4
        refine ⟨_, rfl, _, rfl, _, rfl, _, rfl, _, rfl, by show 1 ≤ sizeLine; exact sz _ (by decide), fun N1 nN1 => ?_⟩
        have s5 := same_new (o := .lst [tx ws]) nN1
        have s25 := (s3.trans s4).trans s5
        refine ⟨ML, N1, ml, _, rfl, rfl, s25 _ _ hML2, upd_same, sz _ (by show ml.length + 1 ≤ 2000; omega), fun M2 nM2 => ?_⟩
        have s6 := same_new (o := .lst (ml ++ [tx ws])) nM2
        exact fin _ D4 FL M2 vals4 fl (ml ++ [tx ws]) ⟨ws, qs, none⟩ (s12.trans (s25.trans s6)) (s6 _ _ (s5 _ _ hD4)) (s6 _ _ (s25 _ _ hFL2)) upd_same (fun _ => hO4.keep fun a xs e => s6 _ _ (s5 _ _ e)) (by omega) (by omega) (by rw [List.length_append]; show ml.length + 1 ≤ n + 1; omega) nD4' n3 (neL (s12.trans s25) nM2) st3
      cases ha : ansC gs ws c with
      | false =>
        rw [ha] at last
        refine ⟨_, rfl, false, rfl, ?_⟩
        refine ⟨_, rfl, ?_⟩
        exact last H2 D (es ++ ks) (vs' ++ r) (Same.refl _) hD2 hr2 okR (by omega) (by unfold stepS; dsimp only; rw [est]; dsimp only; rw [if_neg (by rw [ha]; decide)])
      | true =>
        rw [ha] at last
        refine ⟨_, rfl, true, rfl, ?_⟩
        refine ⟨_, rfl, b, _, 2, _, rfl, rfl, sqT hb2, atI_nat (j := 2) rfl, _, rfl, by show 2 ≤ sizeLine; exact sz _ (by decide), fun N1 nN1 => ?_⟩
        have s3 := same_new (o := .lst [y, .ref b]) nN1
        refine ⟨_, rfl, N1, D, _, _, rfl, rfl, upd_same, s3 _ _ hD2, sz _ (by show 2 + (vs' ++ r).length ≤ 2000; omega), fun N2 nN2 => ?_⟩
        have s4 := same_new (o := .lst ([y, .ref b] ++ (vs' ++ r))) nN2
        have s34 := s3.trans s4
        have kt : ∀ a xs, H a = some (.tup xs) → upd (upd H2 N1 (.lst [y, .ref b])) N2 (.lst ([y, .ref b] ++ (vs' ++ r))) a = some (.tup xs) := fun a xs e => s34 _ _ (s12 _ _ e)
        refine last _ N2 (q1 :: .whil c q1 .nil :: (es ++ ks)) ([y, .ref b] ++ (vs' ++ r)) s34 upd_same ?_ ?_ ?_ (by unfold stepS; dsimp only; rw [est]; dsimp only; rw [if_pos ha])
        · refine .cons ⟨ys, hq1.keep kt, hb1.keep kt⟩ (.cons ⟨[.ref b], ⟨b, x, y, ys, [], rfl, kt _ _ hb, hcx.keep kt, hq1.keep kt, hb1.keep kt, rfl⟩, .inl rfl⟩ (Paired.mapP hrest fun _ _ z => z.keep kt))
        · intro z hz
          rcases List.mem_cons.mp hz with rfl | hz
          · exact ⟨sq, by omega⟩
          · rcases List.mem_cons.mp hz with rfl | hz
            · exact ⟨rfl, by show Prg.size q1 + 0 + 1 ≤ 30; omega⟩
            · exact okR z hz
        · rw [List.length_cons, List.length_cons]; omega
    | cond c q1 q2 rr =>
      obtain ⟨b, x, y, z, ys, zs, us, e1, hb, hcx, hq1, hb1, hq2, hb2', _⟩ := id he
      cases e1
      obtain ⟨okc, sq1, sq2, okq1, okq2, _⟩ := oke
      obtain ⟨ac, aq1, aq2, _⟩ := aE
      have zE : Prg.size q1 + Prg.size q2 + Prg.size rr + 1 ≤ 30 := zE
      have hbT := s1 _ _ hb
      refine ⟨_, rfl, b, _, 0, _, rfl, rfl, sqT hbT, atI_nat (j := 0) rfl, rfl, _, rfl, ?_⟩
      rw [decide_eq_false (by decide +kernel)]
      refine iteF ⟨_, rfl, b, _, 0, _, rfl, rfl, sqT hbT, atI_nat (j := 0) rfl, rfl, _, rfl, ?_⟩
      rw [decide_eq_false (by decide +kernel)]
      refine iteF ⟨_, rfl, b, _, 0, _, rfl, rfl, sqT hbT, atI_nat (j := 0) rfl, rfl, _, rfl, ?_⟩
      rw [decide_eq_false (by decide +kernel)]
      refine iteF ?_
      refine ⟨_, rfl, _, rfl, b, _, 1, _, rfl, rfl, sqT hbT, atI_nat (j := 1) rfl, _, rfl, gs, c, x, ws, rfl, hg, hcx.same s1, ac, hl, hm, fun H2 s2 => ?_⟩
      have s12 := s1.trans s2
      have hb2 := s2 _ _ hbT
      have hD2 := s2 _ _ hD
      have hFL2 := s2 _ _ hFL
      have hML2 := s2 _ _ hML
      try dsimp only [gName, tSeq, tAsg, List.set_cons_zero, List.set_cons_succ]
      refine ⟨_, rfl, b, _, 0, _, rfl, rfl, sqT hb2, atI_nat (j := 0) rfl, rfl, _, rfl, ?_⟩
      rw [decide_eq_true rfl]
      refine iteT ?_
      obtain ⟨qv, qp, qys, hqv, hqs, hqb, sqv, zqv, pick⟩ : ∃ (qv : V) (qp : Prg.Pr) (qys : List V), (qv = if ansC gs ws c = true then y else z) ∧ SqH H qp qys ∧ Blk H qys qv ∧ Prg.some? qp = true ∧ Prg.size qp ≤ 30 ∧ (qp = if ansC gs ws c = true then q1 else q2) := by
        cases ha : ansC gs ws c with
        | true => exact ⟨y, q1, ys, rfl, hq1, hb1, sq1, by omega, rfl⟩
        | false => exact ⟨z, q2, zs, rfl, hq2, hb2', sq2, by omega, rfl⟩
      refine kAsg (te := tIf _ _ _) (fun v H' => v = qv ∧ H' = H2) ?_ ?_
      · intro kq hkq
        cases ha : ansC gs ws c with
        | true =>
          rw [ha, if_pos rfl] at hqv
          exact ⟨_, rfl, true, rfl, _, rfl, b, _, 2, _, rfl, rfl, sqT hb2, atI_nat (j := 2) rfl, hkq _ _ ⟨hqv.symm, rfl⟩⟩
        | false =>
          rw [ha, if_neg (by decide)] at hqv
          exact ⟨_, rfl, false, rfl, _, rfl, b, _, 3, _, rfl, rfl, sqT hb2, atI_nat (j := 3) rfl, hkq _ _ ⟨hqv.symm, rfl⟩⟩
      rintro v H3 ⟨rfl, rfl⟩
      try dsimp only [gName, tSeq, tAsg, List.set_cons_zero, List.set_cons_succ]
      refine ⟨by show 1 ≤ sizeLine; exact sz _ (by decide), fun N1 nN1 => ?_⟩
      have s3 := same_new (o := .lst [v]) nN1
      refine ⟨_, rfl, N1, D, _, _, rfl, rfl, upd_same, s3 _ _ hD2, sz _ (by show 1 + (vs' ++ r).length ≤ 2000; omega), fun N2 nN2 => ?_⟩
      have s4 := same_new (o := .lst ([v] ++ (vs' ++ r))) nN2
      have hN2 : upd (upd H3 N1 (.lst [v])) N2 (.lst ([v] ++ (vs' ++ r))) N2 = some (.lst ([v] ++ (vs' ++ r))) := upd_same
      generalize upd (upd H3 N1 (.lst [v])) N2 (.lst ([v] ++ (vs' ++ r))) = H5 at s4 hN2 ⊢
      have s34 := s3.trans s4
      have kt : ∀ a xs, H a = some (.tup xs) → H5 a = some (.tup xs) := fun a xs e => s34 _ _ (s12 _ _ e)
      have okQ : ∀ x ∈ qp :: (es ++ ks), Prg.some? x = true ∧ Prg.size x ≤ 30 := fun x hx => by
        rcases List.mem_cons.mp hx with rfl | hx
        · exact ⟨sqv, zqv⟩
        · exact okR x hx
      have ln : (qp :: (es ++ ks)).length = (es ++ ks).length + 1 := rfl
      refine ⟨N2, qp :: (es ++ ks), [v] ++ (vs' ++ r), rfl, hN2, .cons ⟨qys, hqs.keep kt, hqb.keep kt⟩ (Paired.mapP hrest fun _ _ z => z.keep kt), (fun x hx => ⟨(okQ x hx).1, Nat.le_trans (okQ x hx).2 (by decide)⟩), by omega, fun H6 D6 vals6 s6 nD6 hD6 hO6 => ?_⟩
      have l6 := opn_len hO6 fun x hx => (okQ x hx).2
      have s26 := s34.trans s6
      refine ⟨_, rfl, _, rfl, _, rfl, _, rfl, ?_⟩
      exact fin _ D6 FL ML vals6 fl ml ⟨ws, qp :: (es ++ ks), none⟩ (s12.trans s26) hD6 (s26 _ _ hFL2) (s26 _ _ hML2) (fun _ => hO6) (by omega) (by omega) (by omega) (neL (s12.trans s34) nD6) n3 n4 (by unfold stepS; dsimp only; rw [est]; dsimp only; rw [pick])
end
end Own

namespace Own
open PySem PySem.Spec PyProof.Rows L2 SX RZ
section
variable {P : Program} {w : World} {K : PySem.W.Frag} {mg : Str → Option Value} {base : Heap}
/-! go, of a run that may end before -/
def spRg2 (C : Addr) : Sp := fun vs H Q _ => ∃ (x L : Addr) (gs : List Nat) (hist : List RS) (cur : RS) (n m : Nat), vs = [.ref x, .int (m : Int)] ∧ RunA H C x L gs hist cur ∧ Good gs ∧ n ≤ m ∧ (∀ i, i < n → GoS gs (stN gs cur i)) ∧ (n < m → stV (stN gs cur n) ≠ .str (Str.ofString "running")) ∧ hist.length + n ≤ 900 ∧
  ∀ H', Chg H H' x L → RunA H' C x L gs (hist ++ hisN gs cur n) (stN gs cur n) → Q (iv n) H'
theorem stV_text (s : RS) : ∃ z, stV s = .str z := by
  obtain ⟨w, ks, f⟩ := s
  cases f with
  | some n => exact ⟨_, rfl⟩
  | none => cases ks with
    | nil => exact ⟨_, rfl⟩
    | cons p r => exact ⟨_, rfl⟩
theorem ok_rg2 {f f1 fs ps C : Addr} {fd fd1 fds : FuncData} (F : Fun K "go" "Run.go" sRgo f fd) (T : RuC K C) (PS : PropOf K C "state" ps fs) (GS : FnOk P w K mg base CX0 1 fs fds ["self"] (spRst C)) (bS : Binds K fds ["self"] [])
    (m1 : Meth K C "step" f1) (G1 : FnOk P w K mg base CX0 12 f1 fd1 ["self"] (spRsp C)) (b1 : Binds K fd1 ["self"] []) : FnOk P w K mg base CX0 13 f fd ["self", "many"] (spRg2 C) := by
  refine F.ok scRgo (fun vs H Q E h => ?_) (fun cdv A outer s H vs Q E hr h => ?_)
  · obtain ⟨x, L, gs, hist, cur, n, m, rfl, _⟩ := h
    rfl
  · obtain ⟨x, L, gs, hist, cur, n, many, rfl, hR, hg, hnm, hs, hend, hl, q⟩ := h
    refine ⟨_, pss_cons (ps_set (i := 2) scRgo.nd rfl (by first | exact .inl rfl | exact .inr rfl) pe_int)
      (pss_cons (ps_while PassesOwn.never (PW.pt (pw_and (pt_cmpR op_lt (pv 2) (pv 1) (nomark _)) (pw_and1 (pt_cmpR op_eq (pe_prop (pv 0) T.cls PS GS (hr.mono (by decide)) bS .nil pass0 (by rfl)) pe_str (nomark _)))))
        (pss_cons (ps_expr (pe_meth0 (pv 0) T.cls m1 G1 (hr.mono (by decide)) b1 .nil pass0)) (pss_one (ps_aug (i := 2) scRgo.nd rfl (by first | exact .inl rfl | exact .inr rfl) pe_int ip_add))))
      (pss_one (ps_ret (pv 2)))), ?_⟩
    refine ⟨fun m σ H' => ∃ i, m = n - i ∧ i ≤ n ∧ σ = [some (.ref x), some (.int (many : Int)), some (iv i)] ∧ Chg H H' x L ∧ RunA H' C x L gs (hist ++ hisN gs cur i) (stN gs cur i), ⟨n, 0, rfl, Nat.zero_le _, rfl, fun b o _ _ e => e, by rw [show hisN gs cur 0 = [] from rfl, List.append_nil]; exact hR⟩, ?_⟩
    rintro m σ H' ⟨i, rfl, hi, rfl, kc, hR2⟩
    try dsimp only [gName, tSeq, tAsg]
    refine ⟨_, rfl, _, rfl, _, _, rfl, rfl, _, rfl, ?_⟩
    obtain ⟨⟨dx, v, h1, _⟩, _⟩ := id hR2
    by_cases hlt : i < n
    · rw [decide_eq_true (show (i : Int) < (many : Int) by omega)]
      have go := hs i hlt
      refine iteT ⟨_, rfl, x, dx, _, rfl, h1, x, L, gs, _, _, rfl, hR2, ?_⟩
      rw [gos_run go]
      refine ⟨rfl, _, rfl, ?_⟩
      rw [decide_eq_true rfl]
      refine iteT ⟨fun σ' H'' => σ' = [some (.ref x), some (.int (many : Int)), some (iv (i + 1))] ∧ Chg H H'' x L ∧ RunA H'' C x L gs (hist ++ hisN gs cur (i + 1)) (stN gs cur (i + 1)), fun σ' H'' ⟨e1, e2, e3⟩ => ⟨n - (i + 1), by omega, i + 1, rfl, hlt, e1, e2, e3⟩, ?_⟩
      refine ⟨_, rfl, x, dx, _, rfl, h1, rfl, x, L, gs, _, _, rfl, hR2, hg, go, by rw [List.length_append, hisN_len]; omega, fun H3 k3 hR3 => ?_⟩
      refine ⟨_, rfl, _, _, rfl, rfl, ?_, fun b o n1 n2 e => k3 _ _ n1 n2 (kc _ _ n1 n2 e), ?_⟩
      · rfl
      · rw [show hist ++ hisN gs cur (i + 1) = (hist ++ hisN gs cur i) ++ [stN gs cur i] from (List.append_assoc ..).symm]
        exact hR3
    · obtain rfl : i = n := by omega
      by_cases hm : i < many
      · rw [decide_eq_true (show (i : Int) < (many : Int) by omega)]
        refine iteT ⟨_, rfl, x, dx, _, rfl, h1, x, L, gs, _, _, rfl, hR2, ?_⟩
        have ne := hend hm
        obtain ⟨z, ez⟩ := stV_text (stN gs cur i)
        rw [ez] at ne ⊢
        refine ⟨rfl, _, rfl, ?_⟩
        rw [decide_eq_false ne]
        refine iteF ⟨_, rfl, ?_⟩
        exact q _ kc hR2
      · rw [decide_eq_false (show ¬ (i : Int) < (many : Int) by omega)]
        refine iteF ⟨_, rfl, ?_⟩
        exact q _ kc hR2
end
end Own

namespace Own
open PySem PySem.Spec PyProof.Rows L2 SX RZ
section
variable {P : Program} {w : World} {K : PySem.W.Frag} {mg : Str → Option Value} {base : Heap}
/-! repr of a run -/
def rprR (n : Nat) (z : Str) : Str := Str.ofString "Run(" ++ (toString (n : Int) : Str) ++ Str.ofString " steps, " ++ z ++ Str.ofString ")"
theorem stV_short (s : RS) : ∃ z, stV s = .str z ∧ z.length ≤ 10 := by
  obtain ⟨w, ks, f⟩ := s
  cases f with
  | some n => exact ⟨_, rfl, by decide +kernel⟩
  | none => cases ks with
    | nil => exact ⟨_, rfl, by decide +kernel⟩
    | cons p r => exact ⟨_, rfl, by decide +kernel⟩
def spRrp (C : Addr) : Sp := fun vs H Q _ => ∃ (x L : Addr) (gs : List Nat) (hist : List RS) (cur : RS), vs = [.ref x] ∧ RunA H C x L gs hist cur ∧ hist.length ≤ 100 ∧ ∀ z, stV cur = .str z → Q (.str (rprR hist.length z)) H
abbrev sRrp : Stmt := RuM 8
theorem scRrp : FnScope ["self"] ["self"] (defScope sRrp) := ⟨rfl, rfl, rfl, by decide +kernel, rfl, by decide +kernel, by decide +kernel⟩
theorem ok_rrp {f fs ps C : Addr} {fd fds : FuncData} (F : Fun K "__repr__" "Run.__repr__" sRrp f fd) (T : RuC K C) (ml : mg "len" = none) (PS : PropOf K C "state" ps fs) (GS : FnOk P w K mg base CX0 1 fs fds ["self"] (spRst C)) (bS : Binds K fds ["self"] []) : FnOk P w K mg base CX0 3 f fd ["self"] (spRrp C) := by
  refine F.ok scRrp (fun vs H Q E h => ?_) (fun cdv A outer s H vs Q E hr h => ?_)
  · obtain ⟨x, L, gs, hist, cur, rfl, _⟩ := h
    rfl
  · obtain ⟨x, L, gs, hist, cur, rfl, hR, hl, q⟩ := h
    obtain ⟨⟨dx, v, hx, _⟩, xs, h2, h3⟩ := id hR
    have e : hist.length = xs.length := Paired.length h3
    refine ⟨_, pss_one (ps_ret (pe_joined (.cons pe_str (.cons (pe_fmt (pe_callB call_len_seq (by rfl) ml PySem.boot_len (pa_cons (pe_fld (pv 0) (by rfl)) pa_nil))) (.cons pe_str (.cons (pe_fmt (pe_prop (pv 0) T.cls PS GS (hr.mono (by decide)) bS .nil pass0 (by rfl))) (.cons pe_str .nil))))))), ?_⟩
    have hlog : ((hist.length : Nat) : Int).natAbs.log2 < 1920 := by
      rw [Int.natAbs_natCast]
      have := Nat.log2_le_self hist.length
      omega
    have lt : ((toString ((hist.length : Nat) : Int) : Str)).length ≤ 3 := tos_len (by omega)
    have l1 : (Str.empty ++ Str.ofString "Run(").length ≤ 20 := by decide
    have l2 : (Str.ofString " steps, ").length ≤ 20 := by decide
    have l3 : (Str.ofString ")").length ≤ 20 := by decide
    obtain ⟨z, ez, lz⟩ := stV_short cur
    refine ⟨_, rfl, by decide, ?_⟩
    refine ⟨_, rfl, x, C, dx, _, _, rfl, hx, T.cls, T.np, rfl, L, _, rfl, .inl (sqL h2), .inr ⟨_, rfl, by rw [← e]; exact hlog, ?_⟩⟩
    rw [← e]
    refine ⟨_, rfl, small (by rw [len_app]; omega), _, rfl, small (by rw [len_app, len_app]; omega), ?_⟩
    have qz := q z ez
    unfold rprR at qz
    refine ⟨_, rfl, x, dx, _, rfl, hx, x, L, gs, hist, cur, rfl, hR, .inl ⟨z, ez, small (by omega), ?_⟩⟩
    refine ⟨_, rfl, small (by rw [len_app, len_app, len_app]; omega), ?_⟩
    refine ⟨_, rfl, small (by rw [len_app, len_app, len_app, len_app]; omega), ?_⟩
    rw [emp_app]
    exact qz
end
end Own

namespace Own
open PySem PySem.Spec PyProof.Rows L2 SX RZ
abbrev sLaw : Stmt := topS 91
abbrev lawN : List Str := ["_law_script", "_law_rng", "_law_turn_here", "_law_good", "_law_some", "_law_my_program", "_law_shown", "_law_box", "_law_state_here", "_law_many", "_law_step_here", "_law_told", "_law_due", "_law_name", "_law_late", "_law_k"]
theorem scLaw : FnScope lawN ["_law_script"] (defScope sLaw) := ⟨rfl, rfl, rfl, by decide +kernel, rfl, by decide +kernel, by decide +kernel⟩
def spLaw (K : PySem.W.Frag) : Sp := fun vs H Q _ => ∃ (a : Addr) (ns : List Int), vs = [.ref a] ∧ SqL K H a (ns.map V.int) ∧ ∀ H', Q (.bl true) H'
/-! ### comprehensions that draw -/
def Off2 (D r : Addr) (H H' : Hp) : Prop := ∀ b o, b ≠ D → b ≠ r → H b = some o → H' b = some o
theorem lc_draw {J : It} {n : Nat} {G : Hp → Prop} {Y : Nat → Hp → V → Hp → Prop} {g : TG} {tt : TT} {te : TE} {vs : List Nat} {σ : L2.St} {H1 : Hp} {D r : Addr} {Qd : Hp → Prop} (w : Walk J n G Y) (nD : H1 D = none) (R : Rng H1 r) (hn : n ≤ 1000) (hG : ∀ H', Go r H1 H' → G H') (Z : Nat → V → Hp → Prop) (hZ : ∀ k y H2 H3, Z k y H2 → Off2 D r H2 H3 → Z k y H3)
    (hs : ∀ i x H' H'' (k : VK) (N : Hp → Prop), i < n → Go r H1 H' → (∃ acc, H' D = some (.lst acc)) → Y i H' x H'' → (∀ y H4, Go r H' H4 → Z i y H4 → k y H4) →
      g x (wipe σ vs) H'' fun σ2 H2 => wipe σ2 vs = wipe σ vs ∧ tt σ2 H2 fun b H3 => if b = true then te σ2 H3 k else N H3)
    (hd : ∀ H' acc, Go r H1 H' → H' D = some (.lst acc) → acc.length = n → (∀ (k : Nat) y, acc[k]? = some y → Z k y H') → Qd H') :
    ∃ W : Nat → Nat → Hp → Prop, (∃ m, W 0 m (upd H1 D (.lst []))) ∧ ∀ i m H, W i m H →
      (J.stop i H ∧ Qd H) ∨ (J.go i H ∧ ∃ Nx : Hp → Prop, (∀ H', Nx H' → ∃ m', m' < m ∧ W (i + 1) m' H') ∧ ∀ x H', J.yld i H x H' → g x (wipe σ vs) H' fun σ2 H2 => wipe σ2 vs = wipe σ vs ∧ tt σ2 H2 fun b H3 =>
        if b = true then te σ2 H3 fun y H4 => ∃ acc, H4 D = some (.lst acc) ∧ acc.length < sizeLine ∧ Nx (upd H4 D (.lst (acc ++ [y]))) else Nx H3) := by
  obtain ⟨xr, er⟩ := R.ex
  have nDr : D ≠ r := (ne_of_none er nD).symm
  refine lc_it w (fun i H' => Go r H1 H' ∧ ∃ acc, H' D = some (.lst acc) ∧ acc.length = i ∧ ∀ (k : Nat) y, acc[k]? = some y → Z k y H') ⟨Go.of R (same_new nD), [], upd_same, rfl, fun k y e => by simp at e⟩ (fun i H' _ h => hG H' h.1) ?_ ?_
  · rintro i x H' H'' hi ⟨s1, acc, hD, hl, hz⟩ hy
    refine hs i x H' H'' _ _ hi s1 ⟨acc, hD⟩ hy fun y H4 s4 z => ?_
    have e4 := s4.1 _ _ nDr hD
    have o4 : Off2 D r H4 (upd H4 D (.lst (acc ++ [y]))) := fun b o nb _ e => by rw [upd_ne nb]; exact e
    refine ⟨acc, e4, small1000 (by omega), (s1.trans s4).put nD, acc ++ [y], upd_same, by rw [List.length_append, hl]; rfl, fun k u hk => ?_⟩
    by_cases hlt : k < acc.length
    · rw [List.getElem?_append_left hlt] at hk
      exact hZ _ _ _ _ (hz k u hk) fun b o nb nr e => o4 b o nb nr (s4.1 b o nr e)
    · rw [List.getElem?_append_right (by omega)] at hk
      have ek : k - acc.length = 0 := by
        by_cases q : k - acc.length = 0
        · exact q
        · rw [List.getElem?_eq_none (by simp; omega)] at hk
          cases hk
      rw [ek] at hk
      cases hk
      have : k = i := by omega
      subst this
      exact hZ _ _ _ _ z o4
  · rintro H' ⟨s1, acc, hD, hl, hz⟩
    exact hd H' acc s1 hD hl hz
theorem ru_mk {C : Addr} {σ : L2.St} {H : Hp} {Q : VK} {ta : TA} {gs ws : List Nat} {p : Prg.Pr} {v : V} (h : ∀ k : List V → Hp → Prop, (∀ H1, Same H H1 → k [tx gs, v, tx ws] H1) → ta σ H k) (hg : Good gs) (hp : PgH H p v) (ok : OkP gs p) (hs : Prg.some? p = true) (hz : Prg.size p ≤ 300) (hm : ∀ c ∈ ws, c ∈ gs)
    (q : ∀ H' x L, Same H H' → H x = none → H L = none → RunA H' C x L gs [] ⟨ws, [p], none⟩ → Q (.ref x) H') : tMake C (spRi C) [] E0 ta σ H Q := by
  refine h _ fun H1 s1 x dx nx nd ne => ?_
  have back : ∀ {y : Addr}, H1 y = none → H y = none := fun {y} n => by
    cases e : H y with
    | none => rfl
    | some o => rw [s1 _ _ e] at n; cases n
  refine ⟨x, dx, gs, ws, p, v, rfl, upd_same, hg, hp.keep fun b xs e => ?_, ok, hs, hz, hm, fun H2 L k nL R => ⟨rfl, ?_⟩⟩
  · have e1 := s1 _ _ e
    rw [upd_ne (ne_of_none e1 nx), upd_ne (ne_of_none e1 nd)]
    exact e1
  · refine q _ x L (fun b o e => ?_) (back nx) (back ?_) R
    · have e1 := s1 _ _ e
      refine k b o (ne_of_none e1 nx) ?_
      rw [upd_ne (ne_of_none e1 nx), upd_ne (ne_of_none e1 nd)]
      exact e1
    · by_cases z : L = x
      · rw [z]; exact nx
      · rw [upd_ne z] at nL
        by_cases z2 : L = dx
        · rw [z2]; exact nd
        · rw [upd_ne z2] at nL; exact nL
theorem run_of {s : RS} (h : stV s = .str (Str.ofString "running")) : s.f = none ∧ s.ks ≠ [] := by
  obtain ⟨w, ks, f⟩ := s
  cases f with
  | some n => exact absurd (V.str.inj h) (by decide +kernel)
  | none => cases ks with
    | nil => exact absurd (V.str.inj h) (by decide +kernel)
    | cons p r => exact ⟨rfl, fun z => nomatch z⟩
theorem par3_first {i j l : Nat} {t : TE} {u : TA} {D : Ends} {σ : L2.St} {H : Hp} (h : t σ H fun x H1 => u σ H1 fun xs H2 => ∃ a b c, x :: xs = [a, b, c] ∧ D.nx (((σ.set i (some a)).set j (some b)).set l (some c)) H2) : tPar3 i j l (tCons t u) D σ H := h
theorem RunA.isL {H : Hp} {C x L : Addr} {gs : List Nat} {hist : List RS} {cur : RS} (h : RunA H C x L gs hist cur) : ∃ vs, H L = some (.lst vs) := let ⟨vs, h, _⟩ := h.past; ⟨vs, h⟩
theorem step_all {gs : List Nat} {A : Cnd.Cd → Prop} {s : RS} (h : ∀ p ∈ s.ks, AllC A p ∧ Prg.size p ≤ 30) : ∀ p ∈ (stepS gs s).ks, AllC A p ∧ Prg.size p ≤ 30 := by
  obtain ⟨ws, ks, f⟩ := s
  cases ks with
  | nil => exact h
  | cons p ks =>
    have hp := h p (List.mem_cons_self ..)
    have all : ∀ e ∈ elems p ++ ks, AllC A e ∧ Prg.size e ≤ 30 := fun e he => by
      rcases List.mem_append.mp he with z | z
      · exact ⟨allC_el hp.1 e z, Nat.le_trans (el_size z) hp.2⟩
      · exact h e (List.mem_cons_of_mem _ z)
    unfold stepS
    dsimp only
    cases e : elems p ++ ks with
    | nil => exact fun _ z => nomatch z
    | cons x r =>
      rw [e] at all
      have ox := all x (List.mem_cons_self ..)
      have rest : ∀ y ∈ r, AllC A y ∧ Prg.size y ≤ 30 := fun y hy => all y (List.mem_cons_of_mem _ hy)
      cases x with
      | nil => exact rest
      | leaf l rr => cases l with
        | fail n => exact fun _ z => nomatch z
        | _ => exact rest
      | whil c q rr =>
        obtain ⟨⟨a1, a2, _⟩, sz⟩ := ox
        have sz : Prg.size q + Prg.size rr + 1 ≤ 30 := sz
        dsimp only
        split
        · intro y hy
          rcases List.mem_cons.mp hy with rfl | hy
          · exact ⟨a2, by omega⟩
          · rcases List.mem_cons.mp hy with rfl | hy
            · exact ⟨⟨a1, a2, True.intro⟩, by show Prg.size q + 0 + 1 ≤ 30; omega⟩
            · exact rest y hy
        · exact rest
      | cond c q1 q2 rr =>
        obtain ⟨⟨a1, a2, a3, _⟩, sz⟩ := ox
        have sz : Prg.size q1 + Prg.size q2 + Prg.size rr + 1 ≤ 30 := sz
        intro y hy
        rcases List.mem_cons.mp hy with rfl | hy
        · split
          · exact ⟨a2, by omega⟩
          · exact ⟨a3, by omega⟩
        · exact rest y hy
theorem LawS.keep {H H' : Hp} {s : RS} {n : Nat} {L : Addr} {v : V} (h : LawS H s n L v) (k : ∀ b o, b ≠ L → H b = some o → (∃ xs, o = .tup xs ∨ o = .lst xs) → H' b = some o) (kt : ∀ a xs, H a = some (.tup xs) → H' a = some (.tup xs)) : LawS H' s n L v := by
  obtain ⟨S, R, FL, ML, vals, fl, ml, e, h1, h2, h3, h4, h5, h6, h7, h8, n1, n2, n3, n4⟩ := h
  exact ⟨S, R, FL, ML, vals, fl, ml, e, k _ _ n1 h1 ⟨_, .inr rfl⟩, k _ _ n2 h2 ⟨_, .inr rfl⟩, k _ _ n3 h3 ⟨_, .inr rfl⟩, k _ _ n4 h4 ⟨_, .inr rfl⟩, fun z => (h5 z).keep kt, h6, h7, h8, n1, n2, n3, n4⟩
theorem LawS.same {H H' : Hp} {s : RS} {n : Nat} {L : Addr} {v : V} (h : LawS H s n L v) (s' : Same H H') : LawS H' s n L v := h.keep (fun _ _ _ e _ => s' _ _ e) fun _ _ e => s' _ _ e
theorem LawS.chg {H H' : Hp} {s : RS} {n : Nat} {C x L : Addr} {gs : List Nat} {hist : List RS} {cur : RS} {v : V} (h : LawS H s n L v) (R : RunA H C x L gs hist cur) (c : Chg H H' x L) : LawS H' s n L v := by
  obtain ⟨⟨dx, w, e1, _⟩, _⟩ := id R
  refine h.keep (fun b o nb e ⟨xs, z⟩ => c _ _ (fun q => ?_) nb e) (Chg.tup R c)
  rw [q, e1] at e
  rcases z with rfl | rfl <;> cases e
theorem wfN {gs : List Nat} (hg : Good gs) {s0 : RS} (h0 : WfS gs s0) (l0 : s0.w.length ≤ 910) {n : Nat} (h : ∀ j, j < n → GoS gs (stN gs s0 j)) : ∀ j, j ≤ n → WfS gs (stN gs s0 j) ∧ (stN gs s0 j).w.length ≤ 910
  | 0, _ => ⟨h0, l0⟩
  | j + 1, hj => step_wf hg (h j (by omega))
theorem allN {gs : List Nat} {A : Cnd.Cd → Prop} {s0 : RS} (h : ∀ p ∈ s0.ks, AllC A p ∧ Prg.size p ≤ 30) : ∀ n, ∀ p ∈ (stN gs s0 n).ks, AllC A p ∧ Prg.size p ≤ 30
  | 0 => h
  | n + 1 => step_all (allN h n)
theorem Go.chg {r x L : Addr} {H0 H H' : Hp} (g : Go r H0 H) (n1 : H0 x = none) (n2 : H0 L = none) (c : Chg H H' x L) : Go r H0 H' := by
  obtain ⟨g1, l, h, h'⟩ := g
  obtain ⟨⟨x1, e1⟩, ⟨x2, e2⟩⟩ := h.ex
  refine ⟨fun b o nb e => c _ _ (ne_of_none e n1).symm.symm (ne_of_none e n2).symm.symm (g1 b o nb e), l, h, ?_⟩
  obtain ⟨ns, i, b, z, cc, k0, k1, k2⟩ := h'
  exact ⟨ns, i, b, z, cc, k0, c _ _ (ne_of_none e1 n1) (ne_of_none e1 n2) k1, c _ _ (ne_of_none e2 n1) (ne_of_none e2 n2) k2⟩
theorem ru_core {C : Addr} {H : Hp} {Q : VK} {gs ws : List Nat} {p : Prg.Pr} {v : V} (hg : Good gs) (hp : PgH H p v) (ok : OkP gs p) (hs : Prg.some? p = true) (hz : Prg.size p ≤ 300) (hm : ∀ c ∈ ws, c ∈ gs)
    (q : ∀ H' x L, Same H H' → H x = none → H L = none → RunA H' C x L gs [] ⟨ws, [p], none⟩ → Q (.ref x) H') : ∀ x dx, H x = none → H dx = none → dx ≠ x → spRi C [.ref x, tx gs, v, tx ws] (upd (upd H dx (.own x)) x (.ins C dx [])) (fun v H3 => v = .non ∧ Q (.ref x) H3) E0 :=
  ru_mk (ta := fun _ H k => k [tx gs, v, tx ws] H) (σ := []) (fun k hk => hk _ (Same.refl _)) hg hp ok hs hz hm q
theorem eqd_flat {K : PySem.W.Frag} {H : Hp} {t1 t2 : Addr} {xs : List V} (h1 : H t1 = some (.lst xs)) (h2 : H t2 = some (.lst xs)) (hl : xs.length ≤ 1000) (hf : ∀ u ∈ xs, Flat u) : Eqd K H 3 (.ref t1) (.ref t2) := by
  refine .inr ⟨t1, t2, _, _, rfl, rfl, .inl ⟨sqL h1, sqL h2⟩, hl, rfl, fun j u v hu hv => ?_⟩
  have euv : u = v := by
    have : some u = some v := hu.symm.trans hv
    injection this
  subst euv
  exact .inl ⟨rfl, hf u (List.mem_of_getElem? hu)⟩
theorem ruK {C : Addr} {σ : L2.St} {H : Hp} {Q : VK} {tk : TA} {vI : List V → List V → List V} {gs ws : List Nat} {p : Prg.Pr} {v : V} (hvI : ∀ s x y z, vI [s] [x, y, z] = [s, z, y, x]) (h : ∀ k : List V → Hp → Prop, k [tx ws, v, tx gs] H → tk σ H k) (hg : Good gs) (hp : PgH H p v) (ok : OkP gs p) (hs : Prg.some? p = true) (hz : Prg.size p ≤ 300) (hm : ∀ c ∈ ws, c ∈ gs)
    (q : ∀ H' x L, Same H H' → H x = none → H L = none → RunA H' C x L gs [] ⟨ws, [p], none⟩ → Q (.ref x) H') : tMakeK C 0 3 (spRi C) vI E0 tNil tk σ H Q := by
  refine h _ ⟨rfl, rfl, fun x dx n1 n2 n3 => ?_⟩
  rw [hvI]
  exact ru_core (Q := Q) hg hp ok hs hz hm q x dx n1 n2 n3
def cat4r {α : Type} : List α → List α → List α
  | [a], [b, c, d] => [a, d, c, b]
  | _, _ => []
theorem cat4r_rel {vs : List V} {us : List Value} {zs : List V} {ws : List Value} (r : Vals vs us) (z : Vals zs ws) : Vals (cat4r vs zs) (cat4r us ws) := by
  match vs, us, r with
  | [], _, .nil => exact .nil
  | _ :: _ :: _, _, .cons _ (.cons _ _) => exact .nil
  | [_], _, .cons a .nil =>
    match zs, ws, z with
    | [], _, .nil => exact .nil
    | [_], _, .cons _ .nil => exact .nil
    | [_, _], _, .cons _ (.cons _ .nil) => exact .nil
    | [_, _, _], _, .cons b (.cons c (.cons d .nil)) => exact .cons a (.cons d (.cons c (.cons b .nil)))
    | _ :: _ :: _ :: _ :: _, _, .cons _ (.cons _ (.cons _ (.cons _ _))) => exact .nil
theorem kb_ru {K : PySem.W.Frag} {f : Addr} {fd : FuncData} (F : Fun K "__init__" "Run.__init__" sRi f fd) : KBn K fd ["self", "letters", "program", "text"] 1 ["text", "program", "letters"] cat4r cat4r := by
  refine ⟨fun s us ws _ h1 h2 => ?_, fun r z => cat4r_rel r z⟩
  obtain ⟨oc, od, kV, doc, pm, an, cdv, ct, osl, rfl, lk, hcd⟩ := F.ex
  match us, ws, h1, h2 with
  | [a], [b, c, d], _, _ => exact .of_eq rfl
section
variable {P : Program} {w : World} {K : PySem.W.Frag} {mg : Str → Option Value} {base : Heap}
variable {f1 f2 f3 f4 f5 f6 f7 f8 f9 fI fS fG fR q1 q2 q3 q4 h1 h2 h3 h4 C : Addr} {fd1 fd2 fd3 fd4 fd5 fd6 fd7 fd8 fd9 fdI fdS fdG fdR hd1 hd2 hd3 hd4 : FuncData} {gI : List Value → List Value → List Value} {vI : List V → List V → List V}
theorem ok_law {f : Addr} {fd : FuncData} (F : Fun K "law" "law" sLaw f fd) (m_len : mg "len" = none) (m_range : mg "range" = none) (m_repr : mg "repr" = none) (m_str : mg "str" = none) (T : RuC K C) (M : Mk K C fI) (gC : mg "Run" = some (.ref C))
    (GI : FnOk P w K mg base CX0 8 fI fdI ["self", "letters", "program", "text"] (spRi C)) (bI : Binds K fdI ["self", "letters", "program", "text"] []) (kI : KBn K fdI ["self", "letters", "program", "text"] 1 ["text", "program", "letters"] gI vI) (hvI : ∀ s x y z, vI [s] [x, y, z] = [s, z, y, x])
    (P1 : PropOf K C "state" q1 h1) (G1 : FnOk P w K mg base CX0 1 h1 hd1 ["self"] (spRst C)) (b1 : Binds K hd1 ["self"] [])
    (P2 : PropOf K C "present" q2 h2) (G2 : FnOk P w K mg base CX0 1 h2 hd2 ["self"] (spRpr C)) (b2 : Binds K hd2 ["self"] [])
    (P3 : PropOf K C "word" q3 h3) (G3 : FnOk P w K mg base CX0 1 h3 hd3 ["self"] (spRwo C)) (b3 : Binds K hd3 ["self"] [])
    (P4 : PropOf K C "steps" q4 h4) (G4 : FnOk P w K mg base CX0 1 h4 hd4 ["self"] (spRss C)) (b4 : Binds K hd4 ["self"] [])
    (OR : DunOf K C "__repr__" fR) (GR : FnOk P w K mg base CX0 3 fR fdR ["self"] (spRrp C)) (bR : Binds K fdR ["self"] [])
    (mSp : Meth K C "step" fS) (GSp : FnOk P w K mg base CX0 12 fS fdS ["self"] (spRsp C)) (bSp : Binds K fdS ["self"] [])
    (mGo : Meth K C "go" fG) (GGo : FnOk P w K mg base CX0 13 fG fdG ["self", "many"] (spRg2 C)) (bGo : Binds K fdG ["self", "many"] [])
    (cDs : Cl P w K mg base "_law_draws" 1 ["_law_script"] (spDraws K) f1 fd1)
    (cLt : Cl P w K mg base "_law_letters" 3 ["_law_rng", "_law_most"] spLetters f2 fd2)
    (cLi : Cl P w K mg base "_law_light" 3 ["_law_rng", "_law_signs"] spLli f3 fd3)
    (cPg : Cl P w K mg base "_law_program" 12 ["_law_rng", "_law_signs", "_law_deep", "_law_conditions"] (spLpg 4) f4 fd4)
    (cWd : Cl P w K mg base "_law_word" 3 ["_law_rng", "_law_signs", "_law_most"] spWord f5 fd5)
    (cSs : Cl P w K mg base "_law_start" 2 ["_law_my_program", "_law_shown"] spLss f6 fd6)
    (cSa : Cl P w K mg base "_law_state" 1 ["_law_state_here"] spLsa f7 fd7)
    (cSe : Cl P w K mg base "_law_step" 5 ["_law_signs", "_law_state_here"] spLse f8 fd8)
    (cSm : Cl P w K mg base "_law_same" 3 ["_law_found", "_law_due"] (spSm K 3) f9 fd9) :
    FnOk P w K mg base CX0 16 f fd ["_law_script"] (spLaw K) := by
  refine F.ok scLaw (fun vs H Q E h => ?_) (fun cdv A outer s H vs Q E hr h => ?_)
  · obtain ⟨a, ns, rfl, _⟩ := h
    rfl
  · obtain ⟨a, ns, rfl, hS, q⟩ := h
    refine ⟨_, (pss_cons (ps_set (i := 1) scLaw.nd rfl (by first | exact .inl rfl | exact .inr rfl) (pe_cl cDs hr (by decide) (by rfl) (pa_cons (pv 0) pa_nil)))
      (pss_cons (ps_for PassesOwn.never rfl (pi_range1 rfl m_range (pa_cons pe_int pa_nil)) (pg_name (i := 2) scLaw.nd rfl (by first | exact .inl rfl | exact .inr rfl))
        (pss_cons (ps_set (i := 3) scLaw.nd rfl (by first | exact .inl rfl | exact .inr rfl) (pe_cl cLt hr (by decide) (by rfl) (pa_cons (pv 1) (pa_cons pe_int pa_nil))))
      (pss_cons (ps_setLc (i := 4) (own := [("_law_k", 15)]) (g := gName 15) (tt := tYes)  rfl scLaw.nd rfl rfl (sw_true rfl rfl rfl (by decide +kernel)) (pi_range1 rfl m_range (pa_cons pe_int pa_nil)) (blkOk_by (N := lawN) (sc := defScope sLaw) (by decide +kernel)) (fun _ _ _ _ _ => pg_name (i := 15) scLaw.nd rfl (Or.inl rfl)) (fun _ _ _ _ _ => pts_nil) (fun _ _ _ _ _ => (pe_cl cLi hr (by decide) (by rfl) (pa_cons (pv 1) (pa_cons (pv 3) pa_nil)))))
      (pss_cons (ps_par (i := 5) (j := 6) (by rfl) scLaw.nd rfl rfl (by decide) rfl rfl (pa_cons (pe_cl cPg hr (by decide) (by rfl) (pa_cons (pv 1) (pa_cons (pv 3) (pa_cons pe_int (pa_cons (pv 4) pa_nil))))) (pa_cons (pe_cl cWd hr (by decide) (by rfl) (pa_cons (pv 1) (pa_cons (pv 3) (pa_cons pe_int pa_nil)))) pa_nil)) (by rfl))
      (pss_cons (ps_par3 (i := 7) (j := 8) (l := 9) (by rfl) scLaw.nd rfl rfl rfl (by decide) (by decide) (by decide) rfl rfl rfl (pa_cons (pe_make M GI (hr.mono (by decide)) (by rfl) gC bI .nil pass0 (pa_cons (pv 3) (pa_cons (pv 5) (pa_cons (pv 6) pa_nil)))) (pa_cons (pe_cl cSs hr (by decide) (by rfl) (pa_cons (pv 5) (pa_cons (pv 6) pa_nil))) (pa_cons pe_int pa_nil))) (by rfl))
      (C8.pss_cut (ps_for PassesOwn.never rfl (pi_range1 rfl m_range (pa_cons pe_int pa_nil)) (pg_name (i := 10) scLaw.nd rfl (by first | exact .inl rfl | exact .inr rfl))
        (pss_cons (ps_set (i := 11) scLaw.nd rfl (by first | exact .inl rfl | exact .inr rfl) (pe_lst (pa_cons (pe_prop (pv 7) T.cls P1 G1 (hr.mono (by decide)) b1 .nil pass0 (by rfl)) (pa_cons (pe_prop (pv 7) T.cls P2 G2 (hr.mono (by decide)) b2 .nil pass0 (by rfl)) (pa_cons (pe_prop (pv 7) T.cls P3 G3 (hr.mono (by decide)) b3 .nil pass0 (by rfl)) (pa_cons (pe_prop (pv 7) T.cls P4 G4 (hr.mono (by decide)) b4 .nil pass0 (by rfl)) (pa_cons (pe_callB (call_reprO GR OR bR pass0 (hr.mono (by decide))) (by rfl) m_repr (by decide +kernel) (pa_cons (pv 7) pa_nil)) pa_nil)))))))
      (pss_cons (ps_set (i := 12) scLaw.nd rfl (by first | exact .inl rfl | exact .inr rfl) (pe_cl cSa hr (by decide) (by rfl) (pa_cons (pv 8) pa_nil)))
      (pss_cons (ps_set (i := 13) scLaw.nd rfl (by first | exact .inl rfl | exact .inr rfl) (pe_op op_add_str (pe_op op_add_str (pe_op op_add_str (pe_op op_add_str pe_str (pe_callTy call_str_int (by rfl) m_str (by decide +kernel) (pa_cons (pv 9) pa_nil))) pe_str) (pv 12)) pe_str))
      (pss_cons (ps_if (pt_not (pt_val (pe_cl cSm hr (by decide) (by rfl) (pa_cons (pv 11) (pa_cons (pe_lst (pa_cons (pv 12) (pa_cons (pe_ix (ixL (K := K) rfl) (pv 8) pe_int (fun _ _ => rfl)) (pa_cons (pe_ix (ixL (K := K) rfl) (pv 8) pe_int (fun _ _ => rfl)) (pa_cons (pv 9) (pa_cons (pv 13) pa_nil)))))) pa_nil))))) pss_never pss_nil)
      (pss_one (ps_if (PW.pt (pw_and (pt_cmpR op_eq (pv 12) pe_str (nomark _)) (pw_and1 (pt_cmpR op_lt (pe_callB call_len_str (by rfl) m_len PySem.boot_len (pa_cons (pe_ix (ixL (K := K) rfl) (pv 8) pe_int (fun _ _ => rfl)) pa_nil)) pe_int (nomark _))))) (pss_cons (ps_par (i := 8) (j := 9) (by rfl) scLaw.nd rfl rfl (by decide) rfl rfl (pa_cons (pe_cl cSe hr (by decide) (by rfl) (pa_cons (pv 3) (pa_cons (pv 8) pa_nil))) (pa_cons (pe_op op_add (pv 9) pe_int) pa_nil)) (by rfl))
      (pss_one (ps_expr (pe_meth0 (pv 7) T.cls mSp GSp (hr.mono (by decide)) bSp .nil pass0)))) pss_nil)))))))
      (pss_cons (ps_set (i := 14) scLaw.nd rfl (by first | exact .inl rfl | exact .inr rfl) (pe_makeK0 M GI (hr.mono (by decide)) (by rfl) gC kI pass0 (pk_cons (pv 6) (pk_cons (pv 5) (pk_cons (pv 3) pk_nil)))))
      (pss_one (ps_if (pt_cmpR op_ne (pe_cl cSa hr (by decide) (by rfl) (pa_cons (pv 8) pa_nil)) pe_str (nomark _)) (pss_one (ps_if (pt_not (pt_val (pe_cl cSm hr (by decide) (by rfl) (pa_cons (pe_lst (pa_cons (pe_meth (pv 14) T.cls mGo GGo (hr.mono (by decide)) bGo .nil pass0 (pa_cons (pe_op op_add (pv 9) pe_int) pa_nil)) (pa_cons (pe_prop (pv 14) T.cls P2 G2 (hr.mono (by decide)) b2 .nil pass0 (by rfl)) pa_nil))) (pa_cons (pe_lst (pa_cons (pv 9) (pa_cons (pe_ix (ixL (K := K) rfl) (pv 8) pe_int (fun _ _ => rfl)) pa_nil))) pa_nil))))) pss_never pss_nil)) (pss_one (ps_if (pt_not (pt_val (pe_cl cSm hr (by decide) (by rfl) (pa_cons (pe_lst (pa_cons (pe_meth (pv 14) T.cls mGo GGo (hr.mono (by decide)) bGo .nil pass0 (pa_cons (pv 9) pa_nil)) (pa_cons (pe_prop (pv 14) T.cls P4 G4 (hr.mono (by decide)) b4 .nil pass0 (by rfl)) (pa_cons (pe_prop (pv 14) T.cls P2 G2 (hr.mono (by decide)) b2 .nil pass0 (by rfl)) pa_nil)))) (pa_cons (pe_lst (pa_cons (pv 9) (pa_cons (pv 9) (pa_cons (pe_ix (ixL (K := K) rfl) (pv 8) pe_int (fun _ _ => rfl)) pa_nil)))) pa_nil))))) pss_never pss_nil)))))))))))
      (pss_one (ps_ret pe_bl)))), ?_⟩
    refine ⟨_, rfl, a, ns, rfl, hS, fun H1 r s1 nr R => ?_⟩
    have sz : ∀ n : Nat, n ≤ 2000 → n ≤ sizeLine := fun n hn => by rw [sizeLine_eq]; omega
    refine ⟨4, rfl, by decide, by decide, ?_⟩
    refine for_range (lo := 0) (n := (4 : Int).toNat) (fun i σ H' => ∃ v2 v3 v4 v5 v6 v7 v8 v9 v10 v11 v12 v13 v14 v15 : Option V, σ = [some (.ref a), some (.ref r), v2, v3, v4, v5, v6, v7, v8, v9, v10, v11, v12, v13, v14, v15] ∧ Rng H' r)
      ⟨_, _, _, _, _, _, _, _, _, _, _, _, _, _, rfl, R⟩ ?_ ?_
    · rintro i σ H2 hi ⟨v2, v3, v4, v5, v6, v7, v8, v9, v10, v11, v12, v13, v14, v15, rfl, R2⟩
      refine ⟨_, rfl, r, 3, rfl, by decide, R2, fun H3 gs g3 hg hl3 => ?_⟩
      have hlo := hg.lo
      have hhi := hg.hi
      try dsimp only [gName, tSeq, tAsg, List.set_cons_zero, List.set_cons_succ]
      refine ⟨2, rfl, by decide, by decide, fun D nD => ?_⟩
      refine lc_draw (r := r) (walk_range (lo := 0) (n := (2 : Int).toNat)) nD g3.rng (by decide) (fun _ _ => trivial) (fun j y H' => ∃ a' xs c', y = .ref a' ∧ a' ≠ D ∧ a' ≠ r ∧ H' a' = some (.tup xs) ∧ OkA gs c' ∧ ∀ H'' : Hp, H'' a' = some (.tup xs) → CdH H'' c' (.ref a')) (fun j y Ha Hb ⟨a', xs, c', e1, e2, e3, e4, e5, e6⟩ o => ⟨a', xs, c', e1, e2, e3, o _ _ e2 e3 e4, e5, e6⟩) ?_ ?_
      · rintro j x Ha Hb kk N hj ga ⟨acc, hD⟩ ⟨rfl, _⟩ hk2
        refine ⟨rfl, _, rfl, _, rfl, r, gs, rfl, hg, ga.rng, fun Hc v c' gc hv ho => hk2 _ _ gc ?_⟩
        obtain ⟨xr, er⟩ := gc.rng.ex
        obtain ⟨xr0, er0⟩ := g3.rng.ex
        have hDc := gc.1 _ _ (ne_of_none er0 nD).symm hD
        have fin : ∀ (b : Addr) (ys : List V), v = .ref b → Hc b = some (.tup ys) → (∀ H'' : Hp, H'' b = some (.tup ys) → CdH H'' c' (.ref b)) → ∃ a' xs c', v = .ref a' ∧ a' ≠ D ∧ a' ≠ r ∧ Hc a' = some (.tup xs) ∧ OkA gs c' ∧ ∀ H'' : Hp, H'' a' = some (.tup xs) → CdH H'' c' (.ref a') := fun b ys e h k => ⟨b, ys, c', e, ne_of h hDc (fun z => nomatch z), ne_of h er (fun z => nomatch z), h, ho, k⟩
        cases ho with
        | mat1 h1 => obtain ⟨b, e, h⟩ := hv; exact fin b _ e h fun H'' h' => ⟨b, rfl, h'⟩
        | mat2 h1 => obtain ⟨b, e, h⟩ := hv; exact fin b _ e h fun H'' h' => ⟨b, rfl, h'⟩
        | len h1 h2 => obtain ⟨b, e, h⟩ := hv; exact fin b _ e h fun H'' h' => ⟨b, rfl, h'⟩
        | tpl h1 h2 h3 => obtain ⟨b, e, h⟩ := hv; exact fin b _ e h fun H'' h' => ⟨b, rfl, h'⟩
      intro H4 acc g4 hD hacc hz
      have hcs : ∀ y ∈ acc, ∃ c', CdH H4 c' y ∧ OkA gs c' := fun y hy => by
        obtain ⟨j, hj⟩ := List.mem_iff_getElem?.mp hy
        obtain ⟨a', xs, c', e1, _, _, e4, e5, e6⟩ := hz j y hj
        exact ⟨c', by rw [e1]; exact e6 _ e4, e5⟩
      have hDr : D ≠ r := by
        obtain ⟨xr0, er0⟩ := g3.rng.ex
        exact (ne_of_none er0 nD).symm
      have hacc : acc.length = 2 := hacc
      try dsimp only [gName, tSeq, tAsg, List.set_cons_zero, List.set_cons_succ]
      refine ⟨_, rfl, _, rfl, _, rfl, r, D, gs, 3, acc, rfl, hg, by decide, by decide, hDr, hD, by omega, by omega, hcs, g4.rng, fun H5 pgv p g5 hp okp aP hsm hzp => ?_⟩
      refine ⟨_, rfl, _, rfl, r, gs, 4, rfl, by omega, by omega, by decide, by decide, g5.rng, fun H6 ws g6 hm hwl => ?_⟩
      have hp6 := LfH.go hp g5.rng g6
      have hzp : Prg.size p ≤ 27 := hzp
      refine ⟨_, _, rfl, ?_⟩
      try dsimp only [gName, tSeq, tAsg, List.set_cons_zero, List.set_cons_succ]
      refine par3_first ?_
      refine ru_mk (gs := gs) (ws := ws) (p := p) (v := pgv) (fun k hk => ⟨_, rfl, _, rfl, _, rfl, hk _ (Same.refl _)⟩) hg hp6 okp hsm (by omega) hm fun H7 x L s7 nx nL r1 => ?_
      obtain ⟨s0, es0⟩ : ∃ s0 : RS, s0 = ⟨ws, [p], none⟩ := ⟨_, rfl⟩
      obtain ⟨vsL, eL⟩ := r1.isL
      refine ⟨_, rfl, _, rfl, p, pgv, ws, L, rfl, hp6.keep (fun b xs e => s7 _ _ e), hsm, by omega, (by rw [eL]; exact fun z => nomatch z), fun H8 S8 s8 hS8 => ⟨_, _, _, rfl, ?_⟩⟩
      have r2 := r1.same s8
      rw [← es0] at r2 hS8
      have wf0 : WfS gs s0 := by
        rw [es0]
        exact ⟨hm, fun y hy => by rw [List.mem_singleton.mp hy]; exact ⟨okp, hsm, by omega⟩⟩
      have l0 : s0.w.length ≤ 910 := by rw [es0]; show ws.length ≤ 910; omega
      have all0 : ∀ y ∈ s0.ks, AllC (OkA gs) y ∧ Prg.size y ≤ 30 := by
        rw [es0]
        exact fun y hy => by rw [List.mem_singleton.mp hy]; exact ⟨aP, by omega⟩
      have G8 : Go r H6 H8 := Go.of g6.rng (s7.trans s8)
      try dsimp only [gName, tSeq, tAsg, List.set_cons_zero, List.set_cons_succ]
      refine ⟨fun σ H' => ∃ (n : Nat) (vS : V) (v10 v11 v12 v13 v14 v15 : Option V), σ = [some (.ref a), some (.ref r), some (.int (0 + (i : Int))), some (tx gs), some (.ref D), some pgv, some (tx ws), some (.ref x), some vS, some (iv n), v10, v11, v12, v13, v14, v15] ∧ n ≤ 12 ∧ Go r H6 H' ∧ RunA H' C x L gs (hisN gs s0 n) (stN gs s0 n) ∧ LawS H' (stN gs s0 n) n L vS ∧ ∀ j, j < n → GoS gs (stN gs s0 j), ?_, ?_⟩
      · refine ⟨12, rfl, by decide, by decide, ?_⟩
        refine for_range (lo := 0) (n := (12 : Int).toNat) (fun k σ H' => ∃ (n : Nat) (vS : V) (v10 v11 v12 v13 v14 v15 : Option V), σ = [some (.ref a), some (.ref r), some (.int (0 + (i : Int))), some (tx gs), some (.ref D), some pgv, some (tx ws), some (.ref x), some vS, some (iv n), v10, v11, v12, v13, v14, v15] ∧ n ≤ k ∧ Go r H6 H' ∧ RunA H' C x L gs (hisN gs s0 n) (stN gs s0 n) ∧ LawS H' (stN gs s0 n) n L vS ∧ ∀ j, j < n → GoS gs (stN gs s0 j))
          ⟨0, S8, _, _, _, _, _, _, rfl, Nat.le_refl _, G8, r2, hS8, fun j h => absurd h (Nat.not_lt_zero _)⟩ ?_ ?_
        · rintro k σ H9 hk ⟨n, vS, v10, v11, v12, v13, v14, v15, rfl, hn, g9, R9, S9, hgo⟩
          have hk : k < 12 := hk
          try dsimp only [gName, tSeq, tAsg, List.set_cons_zero, List.set_cons_succ]
          obtain ⟨⟨dx, vv, hx, _⟩, _⟩ := id R9
          obtain ⟨wf, hwl⟩ := wfN hg wf0 l0 hgo n (Nat.le_refl _)
          have allH := allN (gs := gs) all0 n
          refine ⟨_, rfl, x, dx, _, rfl, hx, x, L, gs, _, _, rfl, R9, _, rfl, x, dx, _, rfl, hx, x, L, gs, _, _, rfl, R9, _, rfl, x, dx, _, rfl, hx, x, L, gs, _, _, rfl, R9, _, rfl, x, dx, _, rfl, hx, x, L, gs, _, _, rfl, R9, by rw [hisN_len]; omega, ?_⟩
          refine ⟨_, rfl, x, dx, _, rfl, hx, x, L, gs, _, _, rfl, R9, by rw [hisN_len]; omega, fun z ez => ⟨_, rfl, by show 5 ≤ sizeLine; exact sz _ (by decide), fun T1 nT1 => ?_⟩⟩
          have sT := same_new (o := .lst [stV (stN gs s0 n), tx (stN gs s0 n).w, wordV (stN gs s0 n).f, iv (hisN gs s0 n).length, .str (rprR (hisN gs s0 n).length z)]) nT1
          have hT1 : upd H9 T1 (.lst [stV (stN gs s0 n), tx (stN gs s0 n).w, wordV (stN gs s0 n).f, iv (hisN gs s0 n).length, .str (rprR (hisN gs s0 n).length z)]) T1 = some (.lst [stV (stN gs s0 n), tx (stN gs s0 n).w, wordV (stN gs s0 n).f, iv (hisN gs s0 n).length, .str (rprR (hisN gs s0 n).length z)]) := upd_same
          generalize upd H9 T1 (.lst [stV (stN gs s0 n), tx (stN gs s0 n).w, wordV (stN gs s0 n).f, iv (hisN gs s0 n).length, .str (rprR (hisN gs s0 n).length z)]) = H10 at sT hT1 ⊢
          rw [hisN_len] at hT1
          have R10 := R9.same sT
          have S10 := S9.same sT
          have lz : z.length ≤ 10 := by
            obtain ⟨z', ez', lz'⟩ := stV_short (stN gs s0 n)
            rw [ez] at ez'
            cases ez'
            exact lz'
          try dsimp only [gName, tSeq, tAsg, List.set_cons_zero, List.set_cons_succ]
          refine ⟨_, rfl, stN gs s0 n, n, L, vS, rfl, S10, fun p hp => (wf.ok p hp).2.1, fun H11 s11 => ?_⟩
          have hT11 := s11 _ _ hT1
          have R11 := R10.same s11
          have S11 := S10.same s11
          rw [ez] at hT11 ⊢
          try dsimp only [gName, tSeq, tAsg, List.set_cons_zero, List.set_cons_succ]
          have hlog : ((n : Nat) : Int).natAbs.log2 < 1920 := by
            rw [Int.natAbs_natCast]
            have := Nat.log2_le_self n
            omega
          have lt : ((toString ((n : Nat) : Int) : Str)).length ≤ 3 := tos_len (by omega)
          have w1 : (Str.ofString "Run(").length ≤ 20 := by decide
          have w2 : (Str.ofString " steps, ").length ≤ 20 := by decide
          have w3 : (Str.ofString ")").length ≤ 20 := by decide
          refine ⟨_, rfl, _, rfl, hlog, _, _, rfl, rfl, small (by omega), _, _, rfl, rfl, small (by rw [len_app]; omega), _, rfl, _, _, rfl, rfl, small (by rw [len_app, len_app]; omega), _, _, rfl, rfl, small (by rw [len_app, len_app, len_app]; omega), ?_⟩
          try dsimp only [gName, tSeq, tAsg, List.set_cons_zero, List.set_cons_succ]
          obtain ⟨S1, Ra, FL, ML, vals, fl, ml, eS, d1, d2, d3, d4, d5⟩ := id S11
          subst eS
          refine ⟨_, rfl, _, rfl, _, rfl, S1, _, 1, _, rfl, rfl, sqL d1, atI_nat (j := 1) rfl, _, rfl, S1, _, 2, _, rfl, rfl, sqL d1, atI_nat (j := 2) rfl, _, rfl, _, rfl, by show 5 ≤ sizeLine; exact sz _ (by decide), fun T2 nT2 => ?_⟩
          have s12 := same_new (o := .lst [.str z, tx (stN gs s0 n).w, wordV (stN gs s0 n).f, iv n, .str (rprR n z)]) nT2
          refine ⟨_, _, rfl, .inr ⟨T1, T2, _, _, rfl, rfl, .inl ⟨sqL (s12 _ _ hT11), sqL upd_same⟩, by show 5 ≤ 1000; decide, rfl, fun j u v hu hv => ?_⟩, fun H12 s13 => ⟨true, rfl, iteF ?_⟩⟩
          · have euv : u = v := by
              have : some u = some v := hu.symm.trans hv
              injection this
            subst euv
            refine .inl ⟨rfl, ?_⟩
            have hmem := List.mem_of_getElem? hu
            simp only [List.mem_cons, List.not_mem_nil, or_false] at hmem
            rcases hmem with e | e | e | e | e
            · rw [e]; exact True.intro
            · rw [e]; exact True.intro
            · rw [e]; cases (stN gs s0 n).f <;> exact True.intro
            · rw [e]; exact True.intro
            · rw [e]; exact True.intro
          have sAll := ((sT.trans s11).trans s12).trans s13
          have R12 := R9.same sAll
          have S12 := S9.same sAll
          have g12 := g9.same sAll
          try dsimp only [gName, tSeq, tAsg, tNext, List.set_cons_zero, List.set_cons_succ]
          obtain ⟨S1', Ra', FL', ML', vals', fl', ml', eS', c1, c2, c3, c4, c5⟩ := id S12
          cases eS'
          obtain ⟨⟨dx2, vv2, hx2, _⟩, _⟩ := id R12
          refine ⟨_, rfl, rfl, _, rfl, ?_⟩
          by_cases hr1 : z = Str.ofString "running"
          rotate_left
          · rw [decide_eq_false (fun e => hr1 (V.str.inj e))]
            refine iteF ?_
            exact ⟨n, _, _, _, _, _, _, _, rfl, by omega, g12, R12, S12, hgo⟩
          subst hr1
          rw [decide_eq_true rfl]
          refine iteT ?_
          refine ⟨_, rfl, S1, _, 1, _, rfl, rfl, sqL c1, atI_nat (j := 1) rfl, _, rfl, by rw [S_len]; exact sz _ (by omega), _, _, rfl, rfl, _, rfl, ?_⟩
          rw [S_len]
          by_cases hlen : (stN gs s0 n).w.length < 301
          rotate_left
          · rw [decide_eq_false (show ¬ (((stN gs s0 n).w.length : Nat) : Int) < 301 by omega)]
            refine iteF ?_
            exact ⟨n, _, _, _, _, _, _, _, rfl, by omega, g12, R12, S12, hgo⟩
          rw [decide_eq_true (show (((stN gs s0 n).w.length : Nat) : Int) < 301 by omega)]
          refine iteT ?_
          have gon : GoS gs (stN gs s0 n) := ⟨wf, by omega, (run_of ez).1, (run_of ez).2⟩
          obtain ⟨vsL2, eL2⟩ := R12.isL
          refine ⟨_, rfl, _, rfl, gs, stN gs s0 n, n, L, _, rfl, hg, S12, gon, allH, by omega, (by rw [eL2]; exact fun z => nomatch z), fun H13 S3 s14 hS3 => ⟨_, rfl, _, _, rfl, rfl, _, _, rfl, ?_⟩⟩
          have R13 := R12.same s14
          have hx3 := s14 _ _ hx2
          try dsimp only [gName, tSeq, tAsg, tNext, List.set_cons_zero, List.set_cons_succ]
          refine ⟨_, rfl, x, dx2, _, rfl, hx3, rfl, x, L, gs, _, _, rfl, R13, hg, gon, by rw [hisN_len]; omega, fun H14 k14 R14 => ?_⟩
          have hxN : H6 x = none := nx
          have hLN : H6 L = none := nL
          exact ⟨n + 1, S3, _, _, _, _, _, _, rfl, by omega, (g12.same s14).chg hxN hLN k14, R14, hS3.chg R13 k14, (fun j hj => by
            by_cases q : j < n
            · exact hgo j q
            · have : j = n := by omega
              rw [this]; exact gon)⟩
        · rintro σ H9 ⟨n, vS, v10, v11, v12, v13, v14, v15, rfl, hn, g9, R9, S9, hgo⟩
          exact ⟨n, vS, _, _, _, _, _, _, rfl, hn, g9, R9, S9, hgo⟩
      rintro σ H9 ⟨n, vS, v10, v11, v12, v13, v14, v15, rfl, hn, g9, R9, S9, hgo⟩
      try dsimp only [gName, tSeq, tAsg, tNext, List.set_cons_zero, List.set_cons_succ]
      have hp9 : PgH H9 p pgv := LfH.go hp6 g6.rng g9
      refine ruK (gs := gs) (ws := ws) (p := p) (v := pgv) hvI (fun k hk => ⟨_, rfl, _, rfl, _, rfl, hk⟩) hg hp9 okp hsm (by omega) hm fun H15 x3 L3 s15 nx3 nL3 R15 => ?_
      rw [← es0] at R15
      have S15 := S9.same s15
      have g15 := g9.same s15
      obtain ⟨⟨dx3, vv3, hx3, _⟩, _⟩ := id R15
      obtain ⟨z, ez⟩ := stV_text (stN gs s0 n)
      obtain ⟨wf, hwl⟩ := wfN hg wf0 l0 hgo n (Nat.le_refl _)
      try dsimp only [gName, tSeq, tAsg, tNext, List.set_cons_zero, List.set_cons_succ]
      refine ⟨_, rfl, stN gs s0 n, n, L, vS, rfl, S15, fun p hp => (wf.ok p hp).2.1, fun H16 s16 => ?_⟩
      rw [ez]
      refine ⟨rfl, _, rfl, ?_⟩
      have R16 := R15.same s16
      have S16 := S15.same s16
      have g16 := g15.same s16
      have hx16 := s16 _ _ hx3
      obtain ⟨S1, Ra, FL, ML, vals, fl, ml, eS, c1, c2, c3, c4, _⟩ := id S16
      subst eS
      have flatL : ∀ u ∈ [iv n, tx (stN gs s0 n).w], Flat u := fun u hu => by
        simp only [List.mem_cons, List.not_mem_nil, or_false] at hu
        rcases hu with e | e <;> (rw [e]; exact True.intro)
      have flatM : ∀ u ∈ [iv n, iv n, tx (stN gs s0 n).w], Flat u := fun u hu => by
        simp only [List.mem_cons, List.not_mem_nil, or_false] at hu
        rcases hu with e | e | e <;> (rw [e]; exact True.intro)
      have nSx : S1 ≠ x3 := fun e => by rw [e, hx16] at c1; cases c1
      have nSL : S1 ≠ L3 := fun e => by
        obtain ⟨S1', _, _, _, _, _, _, eS', c1', _⟩ := id S9
        cases eS'
        rw [e, nL3] at c1'
        cases c1'
      have nS3 : S1 ≠ x3 ∧ S1 ≠ L3 := ⟨nSx, nSL⟩
      have kRng : ∀ {H' : Hp}, Chg H16 H' x3 L3 → Rng H' r := fun {H'} k => by
        have gg : Go r H9 H' := (Go.of g9.rng (s15.trans s16)).chg nx3 nL3 k
        exact gg.rng
      by_cases hr1 : z = Str.ofString "running"
      · subst hr1
        rw [decide_eq_true rfl]
        refine iteF ?_
        refine ⟨_, rfl, x3, dx3, _, rfl, hx16, rfl, _, rfl, x3, L3, gs, [], s0, n, n, rfl, R16, hg, Nat.le_refl _, hgo, (fun h => absurd h (Nat.lt_irrefl _)), by show 0 + n ≤ 900; omega, fun H17 k17 R17 => ?_⟩
        have R17 : RunA H17 C x3 L3 gs (hisN gs s0 n) (stN gs s0 n) := R17
        obtain ⟨⟨dx4, vv4, hx4, _⟩, _⟩ := id R17
        have d1 := k17 _ _ nS3.1 nS3.2 c1
        refine ⟨_, rfl, x3, dx4, _, rfl, hx4, x3, L3, gs, _, _, rfl, R17, by rw [hisN_len]; omega, _, rfl, x3, dx4, _, rfl, hx4, x3, L3, gs, _, _, rfl, R17, by show 3 ≤ sizeLine; exact sz _ (by decide), fun T1 nT1 => ?_⟩
        rw [hisN_len]
        have sT1 := same_new (o := .lst [iv n, iv n, tx (stN gs s0 n).w]) nT1
        refine ⟨_, rfl, _, rfl, _, rfl, S1, _, 1, _, rfl, rfl, sqL (sT1 _ _ d1), atI_nat (j := 1) rfl, by show 3 ≤ sizeLine; exact sz _ (by decide), fun T2 nT2 => ?_⟩
        have sT2 := same_new (o := .lst [iv n, iv n, tx (stN gs s0 n).w]) nT2
        refine ⟨_, _, rfl, eqd_flat (sT2 _ _ upd_same) upd_same (by show 3 ≤ 1000; decide) flatM, fun H18 s18 => ⟨true, rfl, iteF ?_⟩⟩
        exact ⟨_, _, _, _, _, _, _, _, _, _, _, _, _, _, rfl, (kRng k17).same ((sT1.trans sT2).trans s18)⟩
      · rw [decide_eq_false (fun e => hr1 (V.str.inj e))]
        refine iteT ?_
        refine ⟨_, rfl, x3, dx3, _, rfl, hx16, rfl, _, rfl, _, _, rfl, rfl, x3, L3, gs, [], s0, n, n + 5, rfl, R16, hg, by omega, hgo, (fun _ => by rw [ez]; exact fun e => hr1 (V.str.inj e)), by show 0 + n ≤ 900; omega, fun H17 k17 R17 => ?_⟩
        have R17 : RunA H17 C x3 L3 gs (hisN gs s0 n) (stN gs s0 n) := R17
        obtain ⟨⟨dx4, vv4, hx4, _⟩, _⟩ := id R17
        have d1 := k17 _ _ nS3.1 nS3.2 c1
        refine ⟨_, rfl, x3, dx4, _, rfl, hx4, x3, L3, gs, _, _, rfl, R17, by show 2 ≤ sizeLine; exact sz _ (by decide), fun T1 nT1 => ?_⟩
        have sT1 := same_new (o := .lst [iv n, tx (stN gs s0 n).w]) nT1
        refine ⟨_, rfl, _, rfl, S1, _, 1, _, rfl, rfl, sqL (sT1 _ _ d1), atI_nat (j := 1) rfl, by show 2 ≤ sizeLine; exact sz _ (by decide), fun T2 nT2 => ?_⟩
        have sT2 := same_new (o := .lst [iv n, tx (stN gs s0 n).w]) nT2
        refine ⟨_, _, rfl, eqd_flat (sT2 _ _ upd_same) upd_same (by show 2 ≤ 1000; decide) flatL, fun H18 s18 => ⟨true, rfl, iteF ?_⟩⟩
        exact ⟨_, _, _, _, _, _, _, _, _, _, _, _, _, _, rfl, (kRng k17).same ((sT1.trans sT2).trans s18)⟩
    · rintro σ H2 ⟨v2, v3, v4, v5, v6, v7, v8, v9, v10, v11, v12, v13, v14, v15, rfl, R2⟩
      exact q _
end
end Own

namespace Own
open PySem PySem.Spec PyProof.Rows L2 SX
/-! ### a head told by facts, with dicts of the top: their keys' hashes are the world's own -/
abbrev DcA : Type := (PySem.W.Frag → Addr) × List Str
def obsD (n : List Addr) (fs : List Fct) (fn : List He5.DefA) (tf : List (PySem.W.Frag → Addr)) (dk : List DcA) (g : Addr → Option Obj) : (Bool × List He.FnW) × List (Option (List (Option (Str × Int)))) :=
  (obsO n fs fn tf g, dk.map fun d : DcA => He.dicW (partO n g) (d.1 (partO n g)))
structure ToldD (fs : List Fct) (fn : List He5.DefA) (tf : List (PySem.W.Frag → Addr)) (dk : List DcA) (w : World) (h : Heap) (K : PySem.W.Frag) : Prop where
  told : Told fs fn tf h K
  dics : dk.map (fun d : DcA => He.dicW K (d.1 K)) = dk.map fun d : DcA => some (He.keysIn w.params d.2)
def hookD (n : List Addr) (fs : List Fct) (fn : List He5.DefA) (tf : List (PySem.W.Frag → Addr)) (dk : List DcA) : PySem.W.Hook where
  α := (Bool × List He.FnW) × List (Option (List (Option (Str × Int))))
  obs := fun s => obsD n fs fn tf dk s.heap.get?
  val := fun w => ((true, fn.map He5.DefA.val), dk.map fun d : DcA => some (He.keysIn w.params d.2))
  says := fun w h => ∃ K : PySem.W.Frag, K.In h ∧ ToldD fs fn tf dk w h K
  of := fun _ _ e => ⟨_, He.frT_in, told_of (congrArg Prod.fst e), congrArg Prod.snd e⟩
  keeps := fun _ _ _ ⟨K, hK, c⟩ k => ⟨K, PySem.W.Frag.In.keeps hK k, ⟨⟨c.told.facts, c.told.oks, c.told.defs, c.told.hd, c.told.out, fun p hp => k _ _ (c.told.empty p hp)⟩, c.dics⟩⟩
theorem obsD_eq {n : List Addr} {fs : List Fct} {fn : List He5.DefA} {tf : List (PySem.W.Frag → Addr)} {dk : List DcA} (s : PySem.W.SharedT) : obsD n fs fn tf dk (HandSHeadRun.getT s) = (hookD n fs fn tf dk).obs s.abs := by
  have e : HandSHeadRun.getT s = s.abs.heap.get? := funext (HandSHeadRun.getT_eq s)
  rw [e]
  rfl
theorem ToldD.dic {fs : List Fct} {fn : List He5.DefA} {tf : List (PySem.W.Frag → Addr)} {dk : List DcA} {w : World} {h : Heap} {K : PySem.W.Frag} (c : ToldD fs fn tf dk w h K) (i : Nat) {d : DcA} (e : dk[i]? = some d := by rfl) : ∃ es n, KDict K w (d.1 K) es n := by
  have h1 := congrArg (fun l : List (Option (List (Option (Str × Int)))) => l[i]?) c.dics
  simp only [List.getElem?_map, e] at h1
  exact He.dicW_ok (Option.some.inj h1)
theorem kdct_of {K : PySem.W.Frag} {w : World} {a : Addr} {es : Array DictEntry} {n : Nat} (D : KDict K w a es n) {kvs : List (Str × He.Dv)} (h : He.valsB K a kvs = true) (i : Nat) {q : Str × He.Dv} (e : kvs[i]? = some q := by rfl) : KDct K w a q.1 (q.2.v K) := by
  obtain ⟨u, h1, h2⟩ := He.valsB_ok h (List.mem_of_getElem? e)
  exact ⟨es, n, u, D.at_, D.lit, h1, h2⟩
end Own

namespace Own
open PySem PySem.Spec PyProof.Rows L2 SX
/-! ### a dict of the top whose values are tuples -/
def adrAt (d k : Str) (K : PySem.W.Frag) : Addr := match PySem.W.nsIn K (He.ga K d) k with
  | some (some (.ref a)) => a
  | _ => 0
def tupAtB (K : PySem.W.Frag) (a : Addr) (vs : List He.Dv) : Bool := match K.lookup a with
  | some ⟨.type c, _, .seq its _, _⟩ => decide (c = "tuple") && (decide (its.size ≤ sizeLine) && He.relAll (vs.map (He.Dv.v K)) its.toList)
  | _ => false
theorem tupAtB_ok {K : PySem.W.Frag} {a : Addr} {vs : List He.Dv} (h : tupAtB K a vs = true) (H : Hp) : SqT K H a (vs.map (He.Dv.v K)) := by
  unfold tupAtB at h
  cases q : K.lookup a with
  | none =>
    rw [q] at h
    cases h
  | some o =>
    obtain ⟨oc, od, dt, osl⟩ := o
    rw [q] at h
    cases oc with
    | type c =>
      cases dt with
      | seq its n =>
        have h0 : (decide (c = "tuple") && (decide (its.size ≤ sizeLine) && He.relAll (vs.map (He.Dv.v K)) its.toList)) = true := h
        rw [Bool.and_eq_true, Bool.and_eq_true] at h0
        exact .inr ⟨_, its, n, q, congrArg Value.type (of_decide_eq_true h0.1), rfl, of_decide_eq_true h0.2.1, He.relAll_ok h0.2.2⟩
      | _ => cases h
    | _ => cases dt <;> cases h
end Own

namespace Own
open PySem PySem.Spec PyProof.Rows L2 SX
def hnames0 : List Str := ["FillError", "InvalidLetters", "UnknownLetter", "LettersDiffer", "ParseError", "TooLong", "Missing", "UnknownName", "NothingLeft", "LEAST_LETTERS", "MOST_LETTERS", "LOWERCASE", "check_letters", "check_same_letters", "check_text", "is_turn", "turned", "EMPTY_TEXT", "PLAIN_BLANK", "is_blank"]
def hnames1 : List Str := ["blank_width", "read_row", "item_text", "row_text", "text_parts", "row_parts", "turned_row", "put_row", "Template", "letter_at", "common_size", "first_difference", "letters_word", "texts_word", "compared", "FIRST_NODE", "LAST_NODE", "Net", "read_letters", "pattern_net"]
def hnames2 : List Str := ["jumped", "read_on", "pattern_holds", "HOLDING_WORDS", "condition_names", "check_no_names", "simple_holds", "nameless_holds", "condition_holds", "ASKING_KINDS", "parts_of", "nodes_of", "program_names", "check_nameless", "MOST_TEXT", "unfolded", "filled_text", "stepped", "Run", "_law_draws"]
def hnames3 : List Str := ["_law_draw", "_law_pick", "_law_same", "_law_letters", "_law_turn", "_law_word", "_law_turned", "_law_items", "_law_text", "_law_fill", "_law_order", "_law_compared", "_law_read_items", "_law_filled", "_law_fill_text", "_law_program", "_law_step", "_law_open", "_law_start", "_law_state"]
def hnames4 : List Str := ["_law_light", "_law_asked"]
abbrev hnames : List Str := hnames0 ++ hnames1 ++ hnames2 ++ hnames3 ++ hnames4
abbrev hfs : List Fct := [faB (.glo "check_letters"), faB (.glo "check_same_letters"), faB (.glo "check_text"), faB (.glo "is_turn"), faB (.glo "turned"), faB (.glo "is_blank"), faB (.glo "blank_width"), faB (.glo "read_row"), faB (.glo "item_text"), faB (.glo "row_text"), faB (.glo "turned_row"), faB (.glo "put_row"), faB (.mkr "Template"), propB "Template" "letters", propB "Template" "blanks", propB "Template" "size", faB (.meth "Template" "length"), faB (.meth "Template" "fill"), faB (.meth "Template" "mirrored"), faB (.meth "Template" "with_row"), faB (.glo "letter_at"), faB (.glo "common_size"), faB (.glo "first_difference"), faB (.glo "letters_word"), faB (.glo "texts_word"), faB (.glo "compared"), faB (.mkr "Net"), faB (.meth "Net" "new_node"), faB (.meth "Net" "new_piece"), faB (.meth "Net" "link"), faB (.glo "read_letters"), faB (.glo "pattern_net"), faB (.glo "jumped"), faB (.glo "read_on"), faB (.glo "condition_names"), faB (.glo "parts_of"), faB (.glo "nodes_of"), faB (.glo "program_names"), faB (.glo "pattern_holds"), faB (.glo "simple_holds"), faB (.glo "check_no_names"), faB (.glo "nameless_holds"), faB (.glo "condition_holds"), faB (.glo "check_nameless"), faB (.glo "unfolded"), faB (.glo "filled_text"), faB (.glo "stepped"), faB (.mkr "Run"), propB "Run" "state", propB "Run" "present", propB "Run" "word", propB "Run" "steps", faB (.meth "Run" "step"), faB (.meth "Run" "go"), faB (.meth "Run" "__repr__"), faB (.glo "_law_draws"), faB (.glo "_law_draw"), faB (.glo "_law_pick"), faB (.glo "_law_same"), faB (.glo "_law_letters"), faB (.glo "_law_turn"), faB (.glo "_law_word"), faB (.glo "_law_turned"), faB (.glo "_law_items"), faB (.glo "_law_text"), faB (.glo "_law_fill"), faB (.glo "_law_order"), faB (.glo "_law_compared"), faB (.glo "_law_read_items"), faB (.glo "_law_filled"), faB (.glo "_law_fill_text"), faB (.glo "_law_program"), faB (.glo "_law_step"), faB (.glo "_law_open"), faB (.glo "_law_start"), faB (.glo "_law_state"), faB (.glo "_law_light"), faB (.glo "_law_asked"), faB (.glo "law"), faB (.glo "Template"), faB (.cls "Template"), faB (.noat "Template" "alphabet"), faB (.noat "Template" "places"), faB (.glo "Net"), faB (.cls "Net"), faB (.noat "Net" "reads"), faB (.noat "Net" "jumps"), faB (.glo "Run"), faB (.cls "Run"), faB (.noat "Run" "alphabet"), faB (.noat "Run" "now"), faB (.noat "Run" "past"), faB (.int "LEAST_LETTERS" 2), faB (.int "MOST_LETTERS" 4), faB (.str "LOWERCASE" "abcdefghijklmnopqrstuvwxyz"), faB (.str "EMPTY_TEXT" "-"), faB (.str "PLAIN_BLANK" "{}"), faB (.int "FIRST_NODE" 0), faB (.int "LAST_NODE" 1), faB (.int "MOST_TEXT" 10000), faB (.free "enumerate"), faB (.free "int"), faB (.free "list"), faB (.free "len"), faB (.free "isinstance"), faB (.free "tuple"), faB (.free "all"), faB (.free "zip"), faB (.free "bool"), faB (.free "str"), faB (.free "min"), faB (.free "max"), faB (.free "range"), faB (.free "sorted"), faB (.free "reversed"), faB (.free "dict"), faB (.free "repr"), faB (.glo "ASKING_KINDS"), fun K => He.tupB K "ASKING_KINDS" [.str "if", .str "while"], fun K => decide (tupAtB K (adrAt "HOLDING_WORDS" "same" K) [.str "equal"] = true), fun K => decide (tupAtB K (adrAt "HOLDING_WORDS" "begins" K) [.str "equal", .str "shorter"] = true), fun K => decide (tupAtB K (adrAt "HOLDING_WORDS" "ends" K) [.str "equal", .str "shorter"] = true), fun K => decide (tupAtB K (adrAt "HOLDING_WORDS" "less" K) [.str "less", .str "shorter"] = true), faB (.glo "HOLDING_WORDS"), fun K => He.valsB K (He.ga K "HOLDING_WORDS") [("same", .adr (adrAt "HOLDING_WORDS" "same")), ("begins", .adr (adrAt "HOLDING_WORDS" "begins")), ("ends", .adr (adrAt "HOLDING_WORDS" "ends")), ("less", .adr (adrAt "HOLDING_WORDS" "less"))]]
abbrev hfn : List He5.DefA := [dG "check_letters" sCheckL, dG "check_same_letters" sCS, dG "check_text" sCheck, dG "is_turn" sIs, dG "turned" sTurned, dG "is_blank" sBk, dG "blank_width" sBw, dG "read_row" sRd, dG "item_text" sIt, dG "row_text" sRt, dG "turned_row" sTr, dG "put_row" sPut, dM "Template" "__init__" "Template.__init__" sTi, dP "Template" "letters" "Template.letters" sLr, dP "Template" "blanks" "Template.blanks" sPb, dP "Template" "size" "Template.size" sPs, dM "Template" "length" "Template.length" sLen, dM "Template" "fill" "Template.fill" sFi, dM "Template" "mirrored" "Template.mirrored" sMi, dM "Template" "with_row" "Template.with_row" sWr, dG "letter_at" sLAt, dG "common_size" sCSz, dG "first_difference" sFD, dG "letters_word" sLW, dG "texts_word" sTW, dG "compared" sCm, dM "Net" "__init__" "Net.__init__" sNI, dM "Net" "new_node" "Net.new_node" sNn, dM "Net" "new_piece" "Net.new_piece" sNp, dM "Net" "link" "Net.link" sNl, dG "read_letters" sRl, dG "pattern_net" sPn, dG "jumped" sJu, dG "read_on" sRon, dG "condition_names" sNms, dG "parts_of" sPo, dG "nodes_of" sNo, dG "program_names" sPnm, dG "pattern_holds" sPh, dG "simple_holds" sSh, dG "check_no_names" sCn, dG "nameless_holds" sNh, dG "condition_holds" sCh, dG "check_nameless" sChn, dG "unfolded" sUnf, dG "filled_text" sFte, dG "stepped" sSte, dM "Run" "__init__" "Run.__init__" sRi, dP "Run" "state" "Run.state" sRst, dP "Run" "present" "Run.present" sRpr, dP "Run" "word" "Run.word" sRwo, dP "Run" "steps" "Run.steps" sRss, dM "Run" "step" "Run.step" sRsp, dM "Run" "go" "Run.go" sRgo, dM "Run" "__repr__" "Run.__repr__" sRrp, dG "_law_draws" sDraws, dG "_law_draw" sDraw, dG "_law_pick" sPick, dG "_law_same" sSame, dG "_law_letters" sLetters, dG "_law_turn" sTurn, dG "_law_word" sWord, dG "_law_turned" sLTurned, dG "_law_items" sItems, dG "_law_text" sLx, dG "_law_fill" sLf, dG "_law_order" sLOr, dG "_law_compared" sLCp, dG "_law_read_items" sLri, dG "_law_filled" sLfd, dG "_law_fill_text" sLft, dG "_law_program" sLpg, dG "_law_step" sLse, dG "_law_open" sLop, dG "_law_start" sLss, dG "_law_state" sLsa, dG "_law_light" sLli, dG "_law_asked" sLas, dG "law" sLaw]
abbrev htf : List (PySem.W.Frag → Addr) := []
abbrev hR : PySem.W.OpenRow := PySem.W.OpenLaw.row PySem.Challenge.rw_ownfill_k44_runs_step_by_step
def has0 : List Addr := [2, 3, 15, 22, 24, 25, 27, 28, 29, 30, 31, 32, 35, 42, 44, 45, 47, 48, 49, 50, 51, 54, 61, 63, 64, 66, 67, 68, 69, 70, 73, 80, 82, 83, 85, 86, 87, 88, 89, 92, 99, 101, 102, 104, 105, 106, 107, 108, 111, 118, 120, 121, 123, 124, 125, 126, 127, 130, 137, 139, 140, 142, 143, 144, 145, 146, 147, 150, 157, 159, 160, 162, 163, 164, 165, 166, 169, 176, 178, 179, 181, 182, 183, 184, 185, 188, 190, 191, 193, 194, 195, 197, 198, 200, 201, 202, 204, 205, 207, 208]
def has1 : List Addr := [209, 211, 212, 214, 215, 216, 219, 220, 221, 223, 224, 226, 227, 228, 230, 231, 233, 234, 235, 237, 238, 240, 241, 242, 244, 245, 247, 248, 249, 252, 253, 254, 256, 257, 259, 260, 261, 263, 264, 266, 267, 268, 271, 272, 273, 275, 276, 278, 279, 287, 289, 290, 292, 293, 294, 296, 297, 299, 300, 301, 302, 303, 304, 305, 307, 308, 310, 311, 312, 313, 314, 315, 317, 318, 320, 321, 322, 323, 326, 327, 328, 329, 332, 333, 334, 335, 337, 338, 340, 341, 342, 344, 345, 347, 348, 349, 351, 352, 354, 355]
def has2 : List Addr := [356, 358, 359, 361, 362, 363, 365, 366, 368, 369, 370, 372, 373, 375, 376, 377, 379, 380, 382, 383, 384, 386, 387, 389, 390, 391, 393, 394, 396, 397, 398, 400, 401, 403, 404, 405, 407, 408, 410, 411, 412, 414, 415, 417, 418, 419, 421, 422, 424, 425, 426, 428, 429, 431, 432, 433, 434, 435, 436, 437, 440, 442, 443, 445, 446, 447, 449, 450, 452, 453, 454, 456, 457, 459, 460, 461, 463, 464, 466, 467, 468, 470, 471, 473, 474, 475, 477, 478, 480, 481, 489, 491, 492, 494, 495, 496, 498, 499, 501, 502]
def has3 : List Addr := [503, 505, 506, 508, 509, 510, 512, 513, 515, 516, 517, 518, 519, 520, 521, 524, 526, 527, 529, 530, 531, 533, 534, 536, 537, 538, 541, 542, 543, 546, 547, 548, 550, 551, 553, 554, 555, 556, 557, 558, 559, 560, 562, 563, 565, 566, 567, 569, 570, 572, 573, 574, 576, 577, 579, 580, 581, 583, 584, 586, 587, 588, 590, 591, 593, 594, 595, 596, 598, 599, 601, 602, 603, 605, 606, 608, 609, 610, 612, 613, 615, 616, 617, 619, 620, 622, 623, 624, 626, 627, 629, 630, 631, 633, 634, 636, 637, 638, 640, 641]
def has4 : List Addr := [643, 644, 652, 654, 655, 657, 658, 659, 661, 662, 664, 665, 666, 667, 669, 670, 672, 673, 674, 675, 677, 678, 680, 681, 682, 683, 685, 686, 688, 689, 690, 691, 693, 694, 696, 697, 698, 700, 701, 703, 704, 705, 707, 708, 710, 711, 712, 714, 715, 717, 718, 719, 720, 721, 722, 723, 726, 728, 729, 731, 732, 733, 735, 736, 738, 739, 740, 742, 743, 745, 746, 747, 750, 751, 752, 755, 756, 757, 759, 760, 762, 763, 764, 767, 768, 769, 772, 773, 774, 776, 777, 779, 780, 781, 784, 785, 786, 789, 790, 791]
def has5 : List Addr := [793, 794, 796, 797, 798, 800, 801, 803, 804, 805, 807, 808, 810, 811, 812, 814, 815, 817, 818, 819, 822, 823, 824, 826, 827, 829, 830, 831, 833, 834, 836, 837, 838, 840, 841, 843, 844, 845, 847, 848, 850, 851, 852, 854, 855, 857, 858, 859, 861, 862, 864, 865, 866, 868, 869, 871, 872, 873, 876, 877]
abbrev has : List Addr := has0 ++ has1 ++ has2 ++ has3 ++ has4 ++ has5
abbrev hdk : List DcA := [(fun K => He.ga K "HOLDING_WORDS", ["same", "begins", "ends", "less"])]
abbrev hk : PySem.W.Hook := hookD has hfs hfn htf hdk
abbrev hob (s : PySem.W.SharedT) : hk.α := obsD has hfs hfn htf hdk (HandSHeadRun.getT s)
set_option maxHeartbeats 0 in
theorem run_false (w : World) : HandSHeadRun.RunEq hR (PySem.W.view hR.prog [91]) hk hob 8000 hnames (w.withFollow "special-get-raises" false) := by
  intro os
  kernel_rfl
set_option maxHeartbeats 0 in
theorem run_true (w : World) : HandSHeadRun.RunEq hR (PySem.W.view hR.prog [91]) hk hob 8000 hnames (w.withFollow "special-get-raises" true) := by
  intro os
  kernel_rfl
theorem hrun : ∀ w : World, HandSHeadRun.RunEq hR (PySem.W.view hR.prog [91]) hk hob 8000 hnames w := two_ways run_false run_true
theorem ends {l : PySem.W.OpenLaw} {w : World} {K : PySem.W.Frag} {h : Heap} {mg : Str → Option Value} {fa : Addr} (X : K.In h) (G : h.Ns mainGlobals mg) (hfa : mg "law" = some (.ref fa)) (c' : ToldD hfs hfn htf hdk w h K) : ∃ (fd : FuncData) (sp : Sp), (∀ (s : Shared) (u : Value), BindsTo s fd ⟨[u], []⟩ [("_law_script", u)]) ∧ (∀ (H : Hp) (a : Addr) (ns : List Int), ns.length ≤ 63 → Only H → SqL K H a (ns.map V.int) → sp [.ref a] H (fun v _ => v = .bl true) fun _ _ _ => False) ∧ ∀ base : Heap, K.In base → base.Ns mainGlobals mg → FnOk l.prog w K mg base CX0 16 fa fd ["_law_script"] sp := by
  have c := c'.told
  obtain ⟨fd1, G1_⟩ := c.def_ 0
  have F1 : Fun K "check_letters" "check_letters" sCheckL (He.ga K "check_letters") fd1 := He5.fun_of G1_
  have g1 := He.glo_ok X G (c.fact 0)
  obtain ⟨fd2, G2_⟩ := c.def_ 1
  have F2 : Fun K "check_same_letters" "check_same_letters" sCS (He.ga K "check_same_letters") fd2 := He5.fun_of G2_
  have g2 := He.glo_ok X G (c.fact 1)
  obtain ⟨fd3, G3_⟩ := c.def_ 2
  have F3 : Fun K "check_text" "check_text" sCheck (He.ga K "check_text") fd3 := He5.fun_of G3_
  have g3 := He.glo_ok X G (c.fact 2)
  obtain ⟨fd4, G4_⟩ := c.def_ 3
  have F4 : Fun K "is_turn" "is_turn" sIs (He.ga K "is_turn") fd4 := He5.fun_of G4_
  have g4 := He.glo_ok X G (c.fact 3)
  obtain ⟨fd5, G5_⟩ := c.def_ 4
  have F5 : Fun K "turned" "turned" sTurned (He.ga K "turned") fd5 := He5.fun_of G5_
  have g5 := He.glo_ok X G (c.fact 4)
  obtain ⟨fd6, G6_⟩ := c.def_ 5
  have F6 : Fun K "is_blank" "is_blank" sBk (He.ga K "is_blank") fd6 := He5.fun_of G6_
  have g6 := He.glo_ok X G (c.fact 5)
  obtain ⟨fd7, G7_⟩ := c.def_ 6
  have F7 : Fun K "blank_width" "blank_width" sBw (He.ga K "blank_width") fd7 := He5.fun_of G7_
  have g7 := He.glo_ok X G (c.fact 6)
  obtain ⟨fd8, G8_⟩ := c.def_ 7
  have F8 : Fun K "read_row" "read_row" sRd (He.ga K "read_row") fd8 := He5.fun_of G8_
  have g8 := He.glo_ok X G (c.fact 7)
  obtain ⟨fd9, G9_⟩ := c.def_ 8
  have F9 : Fun K "item_text" "item_text" sIt (He.ga K "item_text") fd9 := He5.fun_of G9_
  have g9 := He.glo_ok X G (c.fact 8)
  obtain ⟨fd10, G10_⟩ := c.def_ 9
  have F10 : Fun K "row_text" "row_text" sRt (He.ga K "row_text") fd10 := He5.fun_of G10_
  have g10 := He.glo_ok X G (c.fact 9)
  obtain ⟨fd11, G11_⟩ := c.def_ 10
  have F11 : Fun K "turned_row" "turned_row" sTr (He.ga K "turned_row") fd11 := He5.fun_of G11_
  have g11 := He.glo_ok X G (c.fact 10)
  obtain ⟨fd12, G12_⟩ := c.def_ 11
  have F12 : Fun K "put_row" "put_row" sPut (He.ga K "put_row") fd12 := He5.fun_of G12_
  have g12 := He.glo_ok X G (c.fact 11)
  obtain ⟨fd13, G13_⟩ := c.def_ 12
  have F13 : Fun K "__init__" "Template.__init__" sTi (He.ma K (He.ga K "Template") "__init__") fd13 := He5.fun_of G13_
  have MK_Template := He.mkr_ok (c.fact 12)
  obtain ⟨fd14, G14_⟩ := c.def_ 13
  have F14 : Fun K "letters" "Template.letters" sLr (wfP K (He.ga K "Template") "letters") fd14 := He5.fun_of G14_
  have R14 := prop_ok (c.fact 13)
  obtain ⟨fd15, G15_⟩ := c.def_ 14
  have F15 : Fun K "blanks" "Template.blanks" sPb (wfP K (He.ga K "Template") "blanks") fd15 := He5.fun_of G15_
  have R15 := prop_ok (c.fact 14)
  obtain ⟨fd16, G16_⟩ := c.def_ 15
  have F16 : Fun K "size" "Template.size" sPs (wfP K (He.ga K "Template") "size") fd16 := He5.fun_of G16_
  have R16 := prop_ok (c.fact 15)
  obtain ⟨fd17, G17_⟩ := c.def_ 16
  have F17 : Fun K "length" "Template.length" sLen (He.ma K (He.ga K "Template") "length") fd17 := He5.fun_of G17_
  have M17 := He.meth_ok (c.fact 16)
  have D17 : DunOf K (He.ga K "Template") "length" (He.ma K (He.ga K "Template") "length") := ⟨M17.at_, M17.fn⟩
  obtain ⟨fd18, G18_⟩ := c.def_ 17
  have F18 : Fun K "fill" "Template.fill" sFi (He.ma K (He.ga K "Template") "fill") fd18 := He5.fun_of G18_
  have M18 := He.meth_ok (c.fact 17)
  have D18 : DunOf K (He.ga K "Template") "fill" (He.ma K (He.ga K "Template") "fill") := ⟨M18.at_, M18.fn⟩
  obtain ⟨fd19, G19_⟩ := c.def_ 18
  have F19 : Fun K "mirrored" "Template.mirrored" sMi (He.ma K (He.ga K "Template") "mirrored") fd19 := He5.fun_of G19_
  have M19 := He.meth_ok (c.fact 18)
  have D19 : DunOf K (He.ga K "Template") "mirrored" (He.ma K (He.ga K "Template") "mirrored") := ⟨M19.at_, M19.fn⟩
  obtain ⟨fd20, G20_⟩ := c.def_ 19
  have F20 : Fun K "with_row" "Template.with_row" sWr (He.ma K (He.ga K "Template") "with_row") fd20 := He5.fun_of G20_
  have M20 := He.meth_ok (c.fact 19)
  have D20 : DunOf K (He.ga K "Template") "with_row" (He.ma K (He.ga K "Template") "with_row") := ⟨M20.at_, M20.fn⟩
  obtain ⟨fd21, G21_⟩ := c.def_ 20
  have F21 : Fun K "letter_at" "letter_at" sLAt (He.ga K "letter_at") fd21 := He5.fun_of G21_
  have g21 := He.glo_ok X G (c.fact 20)
  obtain ⟨fd22, G22_⟩ := c.def_ 21
  have F22 : Fun K "common_size" "common_size" sCSz (He.ga K "common_size") fd22 := He5.fun_of G22_
  have g22 := He.glo_ok X G (c.fact 21)
  obtain ⟨fd23, G23_⟩ := c.def_ 22
  have F23 : Fun K "first_difference" "first_difference" sFD (He.ga K "first_difference") fd23 := He5.fun_of G23_
  have g23 := He.glo_ok X G (c.fact 22)
  obtain ⟨fd24, G24_⟩ := c.def_ 23
  have F24 : Fun K "letters_word" "letters_word" sLW (He.ga K "letters_word") fd24 := He5.fun_of G24_
  have g24 := He.glo_ok X G (c.fact 23)
  obtain ⟨fd25, G25_⟩ := c.def_ 24
  have F25 : Fun K "texts_word" "texts_word" sTW (He.ga K "texts_word") fd25 := He5.fun_of G25_
  have g25 := He.glo_ok X G (c.fact 24)
  obtain ⟨fd26, G26_⟩ := c.def_ 25
  have F26 : Fun K "compared" "compared" sCm (He.ga K "compared") fd26 := He5.fun_of G26_
  have g26 := He.glo_ok X G (c.fact 25)
  obtain ⟨fd27, G27_⟩ := c.def_ 26
  have F27 : Fun K "__init__" "Net.__init__" sNI (He.ma K (He.ga K "Net") "__init__") fd27 := He5.fun_of G27_
  have MK_Net := He.mkr_ok (c.fact 26)
  obtain ⟨fd28, G28_⟩ := c.def_ 27
  have F28 : Fun K "new_node" "Net.new_node" sNn (He.ma K (He.ga K "Net") "new_node") fd28 := He5.fun_of G28_
  have M28 := He.meth_ok (c.fact 27)
  have D28 : DunOf K (He.ga K "Net") "new_node" (He.ma K (He.ga K "Net") "new_node") := ⟨M28.at_, M28.fn⟩
  obtain ⟨fd29, G29_⟩ := c.def_ 28
  have F29 : Fun K "new_piece" "Net.new_piece" sNp (He.ma K (He.ga K "Net") "new_piece") fd29 := He5.fun_of G29_
  have M29 := He.meth_ok (c.fact 28)
  have D29 : DunOf K (He.ga K "Net") "new_piece" (He.ma K (He.ga K "Net") "new_piece") := ⟨M29.at_, M29.fn⟩
  obtain ⟨fd30, G30_⟩ := c.def_ 29
  have F30 : Fun K "link" "Net.link" sNl (He.ma K (He.ga K "Net") "link") fd30 := He5.fun_of G30_
  have M30 := He.meth_ok (c.fact 29)
  have D30 : DunOf K (He.ga K "Net") "link" (He.ma K (He.ga K "Net") "link") := ⟨M30.at_, M30.fn⟩
  obtain ⟨fd31, G31_⟩ := c.def_ 30
  have F31 : Fun K "read_letters" "read_letters" sRl (He.ga K "read_letters") fd31 := He5.fun_of G31_
  have g31 := He.glo_ok X G (c.fact 30)
  obtain ⟨fd32, G32_⟩ := c.def_ 31
  have F32 : Fun K "pattern_net" "pattern_net" sPn (He.ga K "pattern_net") fd32 := He5.fun_of G32_
  have g32 := He.glo_ok X G (c.fact 31)
  obtain ⟨fd33, G33_⟩ := c.def_ 32
  have F33 : Fun K "jumped" "jumped" sJu (He.ga K "jumped") fd33 := He5.fun_of G33_
  have g33 := He.glo_ok X G (c.fact 32)
  obtain ⟨fd34, G34_⟩ := c.def_ 33
  have F34 : Fun K "read_on" "read_on" sRon (He.ga K "read_on") fd34 := He5.fun_of G34_
  have g34 := He.glo_ok X G (c.fact 33)
  obtain ⟨fd35, G35_⟩ := c.def_ 34
  have F35 : Fun K "condition_names" "condition_names" sNms (He.ga K "condition_names") fd35 := He5.fun_of G35_
  have g35 := He.glo_ok X G (c.fact 34)
  obtain ⟨fd36, G36_⟩ := c.def_ 35
  have F36 : Fun K "parts_of" "parts_of" sPo (He.ga K "parts_of") fd36 := He5.fun_of G36_
  have g36 := He.glo_ok X G (c.fact 35)
  obtain ⟨fd37, G37_⟩ := c.def_ 36
  have F37 : Fun K "nodes_of" "nodes_of" sNo (He.ga K "nodes_of") fd37 := He5.fun_of G37_
  have g37 := He.glo_ok X G (c.fact 36)
  obtain ⟨fd38, G38_⟩ := c.def_ 37
  have F38 : Fun K "program_names" "program_names" sPnm (He.ga K "program_names") fd38 := He5.fun_of G38_
  have g38 := He.glo_ok X G (c.fact 37)
  obtain ⟨fd39, G39_⟩ := c.def_ 38
  have F39 : Fun K "pattern_holds" "pattern_holds" sPh (He.ga K "pattern_holds") fd39 := He5.fun_of G39_
  have g39 := He.glo_ok X G (c.fact 38)
  obtain ⟨fd40, G40_⟩ := c.def_ 39
  have F40 : Fun K "simple_holds" "simple_holds" sSh (He.ga K "simple_holds") fd40 := He5.fun_of G40_
  have g40 := He.glo_ok X G (c.fact 39)
  obtain ⟨fd41, G41_⟩ := c.def_ 40
  have F41 : Fun K "check_no_names" "check_no_names" sCn (He.ga K "check_no_names") fd41 := He5.fun_of G41_
  have g41 := He.glo_ok X G (c.fact 40)
  obtain ⟨fd42, G42_⟩ := c.def_ 41
  have F42 : Fun K "nameless_holds" "nameless_holds" sNh (He.ga K "nameless_holds") fd42 := He5.fun_of G42_
  have g42 := He.glo_ok X G (c.fact 41)
  obtain ⟨fd43, G43_⟩ := c.def_ 42
  have F43 : Fun K "condition_holds" "condition_holds" sCh (He.ga K "condition_holds") fd43 := He5.fun_of G43_
  have g43 := He.glo_ok X G (c.fact 42)
  obtain ⟨fd44, G44_⟩ := c.def_ 43
  have F44 : Fun K "check_nameless" "check_nameless" sChn (He.ga K "check_nameless") fd44 := He5.fun_of G44_
  have g44 := He.glo_ok X G (c.fact 43)
  obtain ⟨fd45, G45_⟩ := c.def_ 44
  have F45 : Fun K "unfolded" "unfolded" sUnf (He.ga K "unfolded") fd45 := He5.fun_of G45_
  have g45 := He.glo_ok X G (c.fact 44)
  obtain ⟨fd46, G46_⟩ := c.def_ 45
  have F46 : Fun K "filled_text" "filled_text" sFte (He.ga K "filled_text") fd46 := He5.fun_of G46_
  have g46 := He.glo_ok X G (c.fact 45)
  obtain ⟨fd47, G47_⟩ := c.def_ 46
  have F47 : Fun K "stepped" "stepped" sSte (He.ga K "stepped") fd47 := He5.fun_of G47_
  have g47 := He.glo_ok X G (c.fact 46)
  obtain ⟨fd48, G48_⟩ := c.def_ 47
  have F48 : Fun K "__init__" "Run.__init__" sRi (He.ma K (He.ga K "Run") "__init__") fd48 := He5.fun_of G48_
  have MK_Run := He.mkr_ok (c.fact 47)
  obtain ⟨fd49, G49_⟩ := c.def_ 48
  have F49 : Fun K "state" "Run.state" sRst (wfP K (He.ga K "Run") "state") fd49 := He5.fun_of G49_
  have R49 := prop_ok (c.fact 48)
  obtain ⟨fd50, G50_⟩ := c.def_ 49
  have F50 : Fun K "present" "Run.present" sRpr (wfP K (He.ga K "Run") "present") fd50 := He5.fun_of G50_
  have R50 := prop_ok (c.fact 49)
  obtain ⟨fd51, G51_⟩ := c.def_ 50
  have F51 : Fun K "word" "Run.word" sRwo (wfP K (He.ga K "Run") "word") fd51 := He5.fun_of G51_
  have R51 := prop_ok (c.fact 50)
  obtain ⟨fd52, G52_⟩ := c.def_ 51
  have F52 : Fun K "steps" "Run.steps" sRss (wfP K (He.ga K "Run") "steps") fd52 := He5.fun_of G52_
  have R52 := prop_ok (c.fact 51)
  obtain ⟨fd53, G53_⟩ := c.def_ 52
  have F53 : Fun K "step" "Run.step" sRsp (He.ma K (He.ga K "Run") "step") fd53 := He5.fun_of G53_
  have M53 := He.meth_ok (c.fact 52)
  have D53 : DunOf K (He.ga K "Run") "step" (He.ma K (He.ga K "Run") "step") := ⟨M53.at_, M53.fn⟩
  obtain ⟨fd54, G54_⟩ := c.def_ 53
  have F54 : Fun K "go" "Run.go" sRgo (He.ma K (He.ga K "Run") "go") fd54 := He5.fun_of G54_
  have M54 := He.meth_ok (c.fact 53)
  have D54 : DunOf K (He.ga K "Run") "go" (He.ma K (He.ga K "Run") "go") := ⟨M54.at_, M54.fn⟩
  obtain ⟨fd55, G55_⟩ := c.def_ 54
  have F55 : Fun K "__repr__" "Run.__repr__" sRrp (He.ma K (He.ga K "Run") "__repr__") fd55 := He5.fun_of G55_
  have M55 := He.meth_ok (c.fact 54)
  have D55 : DunOf K (He.ga K "Run") "__repr__" (He.ma K (He.ga K "Run") "__repr__") := ⟨M55.at_, M55.fn⟩
  obtain ⟨fd56, G56_⟩ := c.def_ 55
  have F56 : Fun K "_law_draws" "_law_draws" sDraws (He.ga K "_law_draws") fd56 := He5.fun_of G56_
  have g56 := He.glo_ok X G (c.fact 55)
  obtain ⟨fd57, G57_⟩ := c.def_ 56
  have F57 : Fun K "_law_draw" "_law_draw" sDraw (He.ga K "_law_draw") fd57 := He5.fun_of G57_
  have g57 := He.glo_ok X G (c.fact 56)
  obtain ⟨fd58, G58_⟩ := c.def_ 57
  have F58 : Fun K "_law_pick" "_law_pick" sPick (He.ga K "_law_pick") fd58 := He5.fun_of G58_
  have g58 := He.glo_ok X G (c.fact 57)
  obtain ⟨fd59, G59_⟩ := c.def_ 58
  have F59 : Fun K "_law_same" "_law_same" sSame (He.ga K "_law_same") fd59 := He5.fun_of G59_
  have g59 := He.glo_ok X G (c.fact 58)
  obtain ⟨fd60, G60_⟩ := c.def_ 59
  have F60 : Fun K "_law_letters" "_law_letters" sLetters (He.ga K "_law_letters") fd60 := He5.fun_of G60_
  have g60 := He.glo_ok X G (c.fact 59)
  obtain ⟨fd61, G61_⟩ := c.def_ 60
  have F61 : Fun K "_law_turn" "_law_turn" sTurn (He.ga K "_law_turn") fd61 := He5.fun_of G61_
  have g61 := He.glo_ok X G (c.fact 60)
  obtain ⟨fd62, G62_⟩ := c.def_ 61
  have F62 : Fun K "_law_word" "_law_word" sWord (He.ga K "_law_word") fd62 := He5.fun_of G62_
  have g62 := He.glo_ok X G (c.fact 61)
  obtain ⟨fd63, G63_⟩ := c.def_ 62
  have F63 : Fun K "_law_turned" "_law_turned" sLTurned (He.ga K "_law_turned") fd63 := He5.fun_of G63_
  have g63 := He.glo_ok X G (c.fact 62)
  obtain ⟨fd64, G64_⟩ := c.def_ 63
  have F64 : Fun K "_law_items" "_law_items" sItems (He.ga K "_law_items") fd64 := He5.fun_of G64_
  have g64 := He.glo_ok X G (c.fact 63)
  obtain ⟨fd65, G65_⟩ := c.def_ 64
  have F65 : Fun K "_law_text" "_law_text" sLx (He.ga K "_law_text") fd65 := He5.fun_of G65_
  have g65 := He.glo_ok X G (c.fact 64)
  obtain ⟨fd66, G66_⟩ := c.def_ 65
  have F66 : Fun K "_law_fill" "_law_fill" sLf (He.ga K "_law_fill") fd66 := He5.fun_of G66_
  have g66 := He.glo_ok X G (c.fact 65)
  obtain ⟨fd67, G67_⟩ := c.def_ 66
  have F67 : Fun K "_law_order" "_law_order" sLOr (He.ga K "_law_order") fd67 := He5.fun_of G67_
  have g67 := He.glo_ok X G (c.fact 66)
  obtain ⟨fd68, G68_⟩ := c.def_ 67
  have F68 : Fun K "_law_compared" "_law_compared" sLCp (He.ga K "_law_compared") fd68 := He5.fun_of G68_
  have g68 := He.glo_ok X G (c.fact 67)
  obtain ⟨fd69, G69_⟩ := c.def_ 68
  have F69 : Fun K "_law_read_items" "_law_read_items" sLri (He.ga K "_law_read_items") fd69 := He5.fun_of G69_
  have g69 := He.glo_ok X G (c.fact 68)
  obtain ⟨fd70, G70_⟩ := c.def_ 69
  have F70 : Fun K "_law_filled" "_law_filled" sLfd (He.ga K "_law_filled") fd70 := He5.fun_of G70_
  have g70 := He.glo_ok X G (c.fact 69)
  obtain ⟨fd71, G71_⟩ := c.def_ 70
  have F71 : Fun K "_law_fill_text" "_law_fill_text" sLft (He.ga K "_law_fill_text") fd71 := He5.fun_of G71_
  have g71 := He.glo_ok X G (c.fact 70)
  obtain ⟨fd72, G72_⟩ := c.def_ 71
  have F72 : Fun K "_law_program" "_law_program" sLpg (He.ga K "_law_program") fd72 := He5.fun_of G72_
  have g72 := He.glo_ok X G (c.fact 71)
  obtain ⟨fd73, G73_⟩ := c.def_ 72
  have F73 : Fun K "_law_step" "_law_step" sLse (He.ga K "_law_step") fd73 := He5.fun_of G73_
  have g73 := He.glo_ok X G (c.fact 72)
  obtain ⟨fd74, G74_⟩ := c.def_ 73
  have F74 : Fun K "_law_open" "_law_open" sLop (He.ga K "_law_open") fd74 := He5.fun_of G74_
  have g74 := He.glo_ok X G (c.fact 73)
  obtain ⟨fd75, G75_⟩ := c.def_ 74
  have F75 : Fun K "_law_start" "_law_start" sLss (He.ga K "_law_start") fd75 := He5.fun_of G75_
  have g75 := He.glo_ok X G (c.fact 74)
  obtain ⟨fd76, G76_⟩ := c.def_ 75
  have F76 : Fun K "_law_state" "_law_state" sLsa (He.ga K "_law_state") fd76 := He5.fun_of G76_
  have g76 := He.glo_ok X G (c.fact 75)
  obtain ⟨fd77, G77_⟩ := c.def_ 76
  have F77 : Fun K "_law_light" "_law_light" sLli (He.ga K "_law_light") fd77 := He5.fun_of G77_
  have g77 := He.glo_ok X G (c.fact 76)
  obtain ⟨fd78, G78_⟩ := c.def_ 77
  have F78 : Fun K "_law_asked" "_law_asked" sLas (He.ga K "_law_asked") fd78 := He5.fun_of G78_
  have g78 := He.glo_ok X G (c.fact 77)
  obtain ⟨fd79, G79_⟩ := c.def_ 78
  have F79 : Fun K "law" "law" sLaw (He.ga K "law") fd79 := He5.fun_of G79_
  have g79 := He.glo_ok X G (c.fact 78)
  have gT_Template := He.glo_ok X G (c.fact 79)
  have TC : TmC K (He.ga K "Template") := ⟨He.cls_ok (c.fact 80), He.noat_ok (c.fact 81), He.noat_ok (c.fact 82)⟩
  have gT_Net := He.glo_ok X G (c.fact 83)
  have TN : NeC K (He.ga K "Net") := ⟨He.cls_ok (c.fact 84), He.noat_ok (c.fact 85), He.noat_ok (c.fact 86)⟩
  have gT_Run := He.glo_ok X G (c.fact 87)
  have TR : RuC K (He.ga K "Run") := ⟨He.cls_ok (c.fact 88), He.noat_ok (c.fact 89), He.noat_ok (c.fact 90), He.noat_ok (c.fact 91)⟩
  obtain ⟨t_LEAST_LETTERS, h_LEAST_LETTERS⟩ := He.int_ok X G (c.fact 92)
  obtain ⟨t_MOST_LETTERS, h_MOST_LETTERS⟩ := He.int_ok X G (c.fact 93)
  obtain ⟨t_LOWERCASE, h_LOWERCASE⟩ := He.str_ok X G (c.fact 94)
  obtain ⟨t_EMPTY_TEXT, h_EMPTY_TEXT⟩ := He.str_ok X G (c.fact 95)
  obtain ⟨t_PLAIN_BLANK, h_PLAIN_BLANK⟩ := He.str_ok X G (c.fact 96)
  obtain ⟨t_FIRST_NODE, h_FIRST_NODE⟩ := He.int_ok X G (c.fact 97)
  obtain ⟨t_LAST_NODE, h_LAST_NODE⟩ := He.int_ok X G (c.fact 98)
  obtain ⟨t_MOST_TEXT, h_MOST_TEXT⟩ := He.int_ok X G (c.fact 99)
  have m_enumerate := He.free_ok X G (c.fact 100)
  have m_int := He.free_ok X G (c.fact 101)
  have m_list := He.free_ok X G (c.fact 102)
  have m_len := He.free_ok X G (c.fact 103)
  have m_isinstance := He.free_ok X G (c.fact 104)
  have m_tuple := He.free_ok X G (c.fact 105)
  have m_all := He.free_ok X G (c.fact 106)
  have m_zip := He.free_ok X G (c.fact 107)
  have m_bool := He.free_ok X G (c.fact 108)
  have m_str := He.free_ok X G (c.fact 109)
  have m_min := He.free_ok X G (c.fact 110)
  have m_max := He.free_ok X G (c.fact 111)
  have m_range := He.free_ok X G (c.fact 112)
  have m_sorted := He.free_ok X G (c.fact 113)
  have m_reversed := He.free_ok X G (c.fact 114)
  have m_dict := He.free_ok X G (c.fact 115)
  have m_repr := He.free_ok X G (c.fact 116)
  have gU_ASKING_KINDS := He.glo_ok X G (c.fact 117)
  have U_ASKING_KINDS := fun H => He.tupB_ok (c.fact 118) H
  have kt0 := of_decide_eq_true (c.fact 119)
  have kt1 := of_decide_eq_true (c.fact 120)
  have kt2 := of_decide_eq_true (c.fact 121)
  have kt3 := of_decide_eq_true (c.fact 122)
  have gD_HOLDING_WORDS := He.glo_ok X G (c.fact 123)
  obtain ⟨es_HOLDING_WORDS, n_HOLDING_WORDS, D_HOLDING_WORDS⟩ := c'.dic 0
  have V_HOLDING_WORDS := c.fact 124
  have k_HOLDING_WORDS_0 := kdct_of D_HOLDING_WORDS V_HOLDING_WORDS 0
  have k_HOLDING_WORDS_1 := kdct_of D_HOLDING_WORDS V_HOLDING_WORDS 1
  have k_HOLDING_WORDS_2 := kdct_of D_HOLDING_WORDS V_HOLDING_WORDS 2
  have k_HOLDING_WORDS_3 := kdct_of D_HOLDING_WORDS V_HOLDING_WORDS 3
  have e_ := hfa.symm.trans g79
  cases e_
  obtain ⟨⟨oc, od, kVv, dc, pm, an, cdv, ct, sl, rfl, lw, cw⟩, kw⟩ := id F79
  refine ⟨PySem.W.fnOf "law" "law" (defArgs sLaw) (defBody sLaw) (defScope sLaw) .none kVv dc pm an cdv ct, spLaw K, fun s v => .of_eq rfl, fun H a ns _ _ hS => ⟨a, ns, rfl, hS, fun _ => rfl⟩, fun base _ _ => ?_⟩
  have d1 := F1.binds (ps := ["letters"]) fun _ _ _ _ _ _ us hl => match us, hl with | [_], _ => rfl
  have d2 := F2.binds (ps := ["letters", "other"]) fun _ _ _ _ _ _ us hl => match us, hl with | [_, _], _ => rfl
  have d3 := F3.binds (ps := ["letters", "text"]) fun _ _ _ _ _ _ us hl => match us, hl with | [_, _], _ => rfl
  have d4 := F4.binds (ps := ["letters", "turn"]) fun _ _ _ _ _ _ us hl => match us, hl with | [_, _], _ => rfl
  have d5 := F5.binds (ps := ["letters", "turn", "text"]) fun _ _ _ _ _ _ us hl => match us, hl with | [_, _, _], _ => rfl
  have d6 := F6.binds (ps := ["item"]) fun _ _ _ _ _ _ us hl => match us, hl with | [_], _ => rfl
  have d7 := F7.binds (ps := ["letters", "text", "at"]) fun _ _ _ _ _ _ us hl => match us, hl with | [_, _, _], _ => rfl
  have d8 := F8.binds (ps := ["letters", "text"]) fun _ _ _ _ _ _ us hl => match us, hl with | [_, _], _ => rfl
  have d9 := F9.binds (ps := ["letters", "item"]) fun _ _ _ _ _ _ us hl => match us, hl with | [_, _], _ => rfl
  have d10 := F10.binds (ps := ["letters", "row"]) fun _ _ _ _ _ _ us hl => match us, hl with | [_, _], _ => rfl
  have d11 := F11.binds (ps := ["letters", "turn", "row"]) fun _ _ _ _ _ _ us hl => match us, hl with | [_, _, _], _ => rfl
  have d12 := F12.binds (ps := ["letters", "row", "inner"]) fun _ _ _ _ _ _ us hl => match us, hl with | [_, _, _], _ => rfl
  have d13 := F13.binds (ps := ["self", "letters", "text"]) fun _ _ _ _ _ _ us hl => match us, hl with | [_, _, _], _ => rfl
  have d14 := F14.binds (ps := ["self"]) fun _ _ _ _ _ _ us hl => match us, hl with | [_], _ => rfl
  have d15 := F15.binds (ps := ["self"]) fun _ _ _ _ _ _ us hl => match us, hl with | [_], _ => rfl
  have d16 := F16.binds (ps := ["self"]) fun _ _ _ _ _ _ us hl => match us, hl with | [_], _ => rfl
  have d17 := F17.binds (ps := ["self", "size"]) fun _ _ _ _ _ _ us hl => match us, hl with | [_, _], _ => rfl
  have d18 := F18.binds (ps := ["self", "text"]) fun _ _ _ _ _ _ us hl => match us, hl with | [_, _], _ => rfl
  have d19 := F19.binds (ps := ["self"]) fun _ _ _ _ _ _ us hl => match us, hl with | [_], _ => rfl
  have d20 := F20.binds (ps := ["self", "row"]) fun _ _ _ _ _ _ us hl => match us, hl with | [_, _], _ => rfl
  have d21 := F21.binds (ps := ["text", "place"]) fun _ _ _ _ _ _ us hl => match us, hl with | [_, _], _ => rfl
  have d22 := F22.binds (ps := ["first", "second"]) fun _ _ _ _ _ _ us hl => match us, hl with | [_, _], _ => rfl
  have d23 := F23.binds (ps := ["first", "second"]) fun _ _ _ _ _ _ us hl => match us, hl with | [_, _], _ => rfl
  have d24 := F24.binds (ps := ["letters", "one", "other"]) fun _ _ _ _ _ _ us hl => match us, hl with | [_, _, _], _ => rfl
  have d25 := F25.binds (ps := ["letters", "first", "second"]) fun _ _ _ _ _ _ us hl => match us, hl with | [_, _, _], _ => rfl
  have d26 := F26.binds (ps := ["one", "other", "text"]) fun _ _ _ _ _ _ us hl => match us, hl with | [_, _, _], _ => rfl
  have d27 := F27.binds (ps := ["self"]) fun _ _ _ _ _ _ us hl => match us, hl with | [_], _ => rfl
  have d28 := F28.binds (ps := ["self", "reads"]) fun _ _ _ _ _ _ us hl => match us, hl with | [_, _], _ => rfl
  have d29 := F29.binds (ps := ["self", "reads"]) fun _ _ _ _ _ _ us hl => match us, hl with | [_, _], _ => rfl
  have d30 := F30.binds (ps := ["self", "one", "other"]) fun _ _ _ _ _ _ us hl => match us, hl with | [_, _, _], _ => rfl
  have d31 := F31.binds (ps := ["letters", "sign"]) fun _ _ _ _ _ _ us hl => match us, hl with | [_, _], _ => rfl
  have d32 := F32.binds (ps := ["letters", "pattern"]) fun _ _ _ _ _ _ us hl => match us, hl with | [_, _], _ => rfl
  have d33 := F33.binds (ps := ["net", "nodes"]) fun _ _ _ _ _ _ us hl => match us, hl with | [_, _], _ => rfl
  have d34 := F34.binds (ps := ["net", "nodes", "letter"]) fun _ _ _ _ _ _ us hl => match us, hl with | [_, _, _], _ => rfl
  have d35 := F35.binds (ps := ["condition"]) fun _ _ _ _ _ _ us hl => match us, hl with | [_], _ => rfl
  have d36 := F36.binds (ps := ["program"]) fun _ _ _ _ _ _ us hl => match us, hl with | [_], _ => rfl
  have d37 := F37.binds (ps := ["program"]) fun _ _ _ _ _ _ us hl => match us, hl with | [_], _ => rfl
  have d38 := F38.binds (ps := ["program"]) fun _ _ _ _ _ _ us hl => match us, hl with | [_], _ => rfl
  have d39 := F39.binds (ps := ["letters", "pattern", "text"]) fun _ _ _ _ _ _ us hl => match us, hl with | [_, _, _], _ => rfl
  have d40 := F40.binds (ps := ["letters", "condition", "text"]) fun _ _ _ _ _ _ us hl => match us, hl with | [_, _, _], _ => rfl
  have d41 := F41.binds (ps := ["condition"]) fun _ _ _ _ _ _ us hl => match us, hl with | [_], _ => rfl
  have d42 := F42.binds (ps := ["letters", "condition", "text"]) fun _ _ _ _ _ _ us hl => match us, hl with | [_, _, _], _ => rfl
  have d43 := F43.binds (ps := ["letters", "condition", "text"]) fun _ _ _ _ _ _ us hl => match us, hl with | [_, _, _], _ => rfl
  have d44 := F44.binds (ps := ["program"]) fun _ _ _ _ _ _ us hl => match us, hl with | [_], _ => rfl
  have d45 := F45.binds (ps := ["left"]) fun _ _ _ _ _ _ us hl => match us, hl with | [_], _ => rfl
  have d46 := F46.binds (ps := ["letters", "fill", "text"]) fun _ _ _ _ _ _ us hl => match us, hl with | [_, _, _], _ => rfl
  have d47 := F47.binds (ps := ["letters", "text", "left"]) fun _ _ _ _ _ _ us hl => match us, hl with | [_, _, _], _ => rfl
  have d48 := F48.binds (ps := ["self", "letters", "program", "text"]) fun _ _ _ _ _ _ us hl => match us, hl with | [_, _, _, _], _ => rfl
  have d49 := F49.binds (ps := ["self"]) fun _ _ _ _ _ _ us hl => match us, hl with | [_], _ => rfl
  have d50 := F50.binds (ps := ["self"]) fun _ _ _ _ _ _ us hl => match us, hl with | [_], _ => rfl
  have d51 := F51.binds (ps := ["self"]) fun _ _ _ _ _ _ us hl => match us, hl with | [_], _ => rfl
  have d52 := F52.binds (ps := ["self"]) fun _ _ _ _ _ _ us hl => match us, hl with | [_], _ => rfl
  have d53 := F53.binds (ps := ["self"]) fun _ _ _ _ _ _ us hl => match us, hl with | [_], _ => rfl
  have d55 := F55.binds (ps := ["self"]) fun _ _ _ _ _ _ us hl => match us, hl with | [_], _ => rfl
  have d54 := F54.binds (ps := ["self", "many"]) fun _ _ _ _ _ _ us hl => match us, hl with | [_, _], _ => rfl
  have d56 := F56.binds (ps := ["_law_script"]) fun _ _ _ _ _ _ us hl => match us, hl with | [_], _ => rfl
  have d57 := F57.binds (ps := ["_law_rng", "_law_sides"]) fun _ _ _ _ _ _ us hl => match us, hl with | [_, _], _ => rfl
  have d58 := F58.binds (ps := ["_law_rng", "_law_things"]) fun _ _ _ _ _ _ us hl => match us, hl with | [_, _], _ => rfl
  have d59 := F59.binds (ps := ["_law_found", "_law_due"]) fun _ _ _ _ _ _ us hl => match us, hl with | [_, _], _ => rfl
  have d60 := F60.binds (ps := ["_law_rng", "_law_most"]) fun _ _ _ _ _ _ us hl => match us, hl with | [_, _], _ => rfl
  have d61 := F61.binds (ps := ["_law_rng", "_law_signs"]) fun _ _ _ _ _ _ us hl => match us, hl with | [_, _], _ => rfl
  have d62 := F62.binds (ps := ["_law_rng", "_law_signs", "_law_most"]) fun _ _ _ _ _ _ us hl => match us, hl with | [_, _, _], _ => rfl
  have d63 := F63.binds (ps := ["_law_signs", "_law_my_turn", "_law_shown"]) fun _ _ _ _ _ _ us hl => match us, hl with | [_, _, _], _ => rfl
  have d64 := F64.binds (ps := ["_law_rng", "_law_signs", "_law_most"]) fun _ _ _ _ _ _ us hl => match us, hl with | [_, _, _], _ => rfl
  have d65 := F65.binds (ps := ["_law_signs", "_law_items_here"]) fun _ _ _ _ _ _ us hl => match us, hl with | [_, _], _ => rfl
  have d66 := F66.binds (ps := ["_law_signs", "_law_items_here", "_law_shown"]) fun _ _ _ _ _ _ us hl => match us, hl with | [_, _, _], _ => rfl
  have d67 := F67.binds (ps := ["_law_signs", "_law_mine", "_law_yours"]) fun _ _ _ _ _ _ us hl => match us, hl with | [_, _, _], _ => rfl
  have d68 := F68.binds (ps := ["_law_signs", "_law_mine", "_law_yours"]) fun _ _ _ _ _ _ us hl => match us, hl with | [_, _, _], _ => rfl
  have d69 := F69.binds (ps := ["_law_signs", "_law_shown"]) fun _ _ _ _ _ _ us hl => match us, hl with | [_, _], _ => rfl
  have d70 := F70.binds (ps := ["_law_signs", "_law_fill_here", "_law_shown"]) fun _ _ _ _ _ _ us hl => match us, hl with | [_, _, _], _ => rfl
  have d71 := F71.binds (ps := ["_law_rng", "_law_signs"]) fun _ _ _ _ _ _ us hl => match us, hl with | [_, _], _ => rfl
  have d72 := F72.binds (ps := ["_law_rng", "_law_signs", "_law_deep", "_law_conditions"]) fun _ _ _ _ _ _ us hl => match us, hl with | [_, _, _, _], _ => rfl
  have d73 := F73.binds (ps := ["_law_signs", "_law_state_here"]) fun _ _ _ _ _ _ us hl => match us, hl with | [_, _], _ => rfl
  have d74 := F74.binds (ps := ["_law_rest"]) fun _ _ _ _ _ _ us hl => match us, hl with | [_], _ => rfl
  have d75 := F75.binds (ps := ["_law_my_program", "_law_shown"]) fun _ _ _ _ _ _ us hl => match us, hl with | [_, _], _ => rfl
  have d76 := F76.binds (ps := ["_law_state_here"]) fun _ _ _ _ _ _ us hl => match us, hl with | [_], _ => rfl
  have d77 := F77.binds (ps := ["_law_rng", "_law_signs"]) fun _ _ _ _ _ _ us hl => match us, hl with | [_, _], _ => rfl
  have d78 := F78.binds (ps := ["_law_signs", "_law_condition", "_law_shown"]) fun _ _ _ _ _ _ us hl => match us, hl with | [_, _, _], _ => rfl
  have T : SameT mg := ⟨m_isinstance, m_list, m_tuple, m_len, m_all, m_zip, m_bool, m_int, m_str⟩
  have kH : ∀ k, k ≤ 3 → ∃ a, KDct K w (He.ga K "HOLDING_WORDS") (kwS k) (.ref a) ∧ ∀ H, SqT K H a ((holdW k).map V.str) := fun k hk => match k, hk with
    | 0, _ => ⟨_, k_HOLDING_WORDS_0, fun H => tupAtB_ok kt0 H⟩
    | 1, _ => ⟨_, k_HOLDING_WORDS_1, fun H => tupAtB_ok kt1 H⟩
    | 2, _ => ⟨_, k_HOLDING_WORDS_2, fun H => tupAtB_ok kt2 H⟩
    | 3, _ => ⟨_, k_HOLDING_WORDS_3, fun H => tupAtB_ok kt3 H⟩
  have cDr : Cl l.prog w K mg base "_law_draw" 1 ["_law_rng", "_law_sides"] spDraw (He.ga K "_law_draw") _ := ⟨ok_draw F57 m_int m_len, g57, F57.kp, d57⟩
  have cPk : Cl l.prog w K mg base "_law_pick" 2 ["_law_rng", "_law_things"] (spPick K) (He.ga K "_law_pick") _ := ⟨ok_pick F58 F57 d57 g57 m_int m_len, g58, F58.kp, d58⟩
  have cTn : Cl l.prog w K mg base "_law_turn" 2 ["_law_rng", "_law_signs"] spTurn (He.ga K "_law_turn") _ := ⟨ok_turn F61 F57 d57 g57 m_int m_len m_range, g61, F61.kp, d61⟩
  have cCk : Cl l.prog w K mg base "check_text" 1 ["letters", "text"] spCk (He.ga K "check_text") _ := ⟨ok_check F3 m_enumerate, g3, F3.kp, d3⟩
  have cTu : Cl l.prog w K mg base "turned" 2 ["letters", "turn", "text"] spTd (He.ga K "turned") _ := ⟨ok_turned F5 F3 d3 g3 m_enumerate m_dict m_zip, g5, F5.kp, d5⟩
  have cBk : Cl l.prog w K mg base "is_blank" 1 ["item"] spBk (He.ga K "is_blank") _ := ⟨ok_bk F6 m_len, g6, F6.kp, d6⟩
  have cIs : Cl l.prog w K mg base "is_turn" 1 ["letters", "turn"] spIs (He.ga K "is_turn") _ := ⟨ok_is F4 m_sorted, g4, F4.kp, d4⟩
  have cBw : Cl l.prog w K mg base "blank_width" 2 ["letters", "text", "at"] spBw (He.ga K "blank_width") _ := ⟨ok_bw F7 m_len cIs ⟨_, h_PLAIN_BLANK⟩, g7, F7.kp, d7⟩
  have cRd : Cl l.prog w K mg base "read_row" 3 ["letters", "text"] spRd (He.ga K "read_row") _ := ⟨ok_rd F8 m_len cBw ⟨_, h_EMPTY_TEXT⟩, g8, F8.kp, d8⟩
  have cTr : Cl l.prog w K mg base "turned_row" 3 ["letters", "turn", "row"] (spTr K) (He.ga K "turned_row") _ := ⟨ok_tr F11 cTu, g11, F11.kp, d11⟩
  have cPu : Cl l.prog w K mg base "put_row" 4 ["letters", "row", "inner"] (spPut K) (He.ga K "put_row") _ := ⟨ok_put F12 cBk cTr, g12, F12.kp, d12⟩
  have cCL : Cl l.prog w K mg base "check_letters" 1 ["letters"] spCLn (He.ga K "check_letters") _ := ⟨ok_checkLn F1 m_enumerate m_len ⟨_, h_LEAST_LETTERS⟩ ⟨_, h_MOST_LETTERS⟩ ⟨_, h_LOWERCASE⟩, g1, F1.kp, d1⟩
  have cItx : Cl l.prog w K mg base "item_text" 2 ["letters", "item"] spIt (He.ga K "item_text") _ := ⟨ok_it F9 cBk ⟨_, h_PLAIN_BLANK⟩, g9, F9.kp, d9⟩
  have cRtx : Cl l.prog w K mg base "row_text" 3 ["letters", "row"] (spRt K) (He.ga K "row_text") _ := ⟨ok_rt F10 m_len cItx ⟨_, h_EMPTY_TEXT⟩, g10, F10.kp, d10⟩
  have cCS : Cl l.prog w K mg base "check_same_letters" 1 ["letters", "other"] spCS (He.ga K "check_same_letters") _ := ⟨ok_cs F2, g2, F2.kp, d2⟩
  have GTI : FnOk l.prog w K mg base CX0 4 (He.ma K (He.ga K "Template") "__init__") _ ["self", "letters", "text"] (spTi (He.ga K "Template")) := ok_ti F13 TC m_tuple cCL cRd
  have GF : FnOk l.prog w K mg base CX0 5 (He.ma K (He.ga K "Template") "fill") _ ["self", "text"] (spFi (He.ga K "Template")) := ok_fi F18 TC cCk cPu
  have GLr : FnOk l.prog w K mg base CX0 1 (wfP K (He.ga K "Template") "letters") _ ["self"] (spLr (He.ga K "Template")) := ok_lr F14 TC
  have GPb : FnOk l.prog w K mg base CX0 2 (wfP K (He.ga K "Template") "blanks") _ ["self"] (spPb (He.ga K "Template")) := ok_pb F15 TC m_len cBk
  have GPs : FnOk l.prog w K mg base CX0 2 (wfP K (He.ga K "Template") "size") _ ["self"] (spPs (He.ga K "Template")) := ok_psz F16 TC m_len cBk
  have GLen : FnOk l.prog w K mg base CX0 4 (He.ma K (He.ga K "Template") "length") _ ["self", "size"] (spLn (He.ga K "Template")) := ok_len F17 TC R16 R15 GPs GPb d16 d15
  have GW : FnOk l.prog w K mg base CX0 6 (He.ma K (He.ga K "Template") "with_row") _ ["self", "row"] (spWr K (He.ga K "Template")) := ok_wr F20 TC MK_Template gT_Template GTI d13 cRtx
  have GM : FnOk l.prog w K mg base CX0 7 (He.ma K (He.ga K "Template") "mirrored") _ ["self"] (spMi (He.ga K "Template")) := ok_mi F19 TC M20 GW d20
  have cLA : Cl l.prog w K mg base "letter_at" 1 ["text", "place"] spLAt (He.ga K "letter_at") _ := ⟨ok_lat F21 m_len, g21, F21.kp, d21⟩
  have cCz : Cl l.prog w K mg base "common_size" 1 ["first", "second"] spCSz (He.ga K "common_size") _ := ⟨ok_csz F22 m_len m_min, g22, F22.kp, d22⟩
  have cFD : Cl l.prog w K mg base "first_difference" 2 ["first", "second"] spFD (He.ga K "first_difference") _ := ⟨ok_fdf F23 cCz cLA, g23, F23.kp, d23⟩
  have cLW : Cl l.prog w K mg base "letters_word" 1 ["letters", "one", "other"] spLW (He.ga K "letters_word") _ := ⟨ok_lw F24, g24, F24.kp, d24⟩
  have cTW : Cl l.prog w K mg base "texts_word" 3 ["letters", "first", "second"] spTW (He.ga K "texts_word") _ := ⟨ok_tw F25 cFD cLW, g25, F25.kp, d25⟩
  have cCm : Cl l.prog w K mg base "compared" 6 ["one", "other", "text"] (spCm (He.ga K "Template")) (He.ga K "compared") _ := ⟨ok_cm F26 TC R14 GLr d14 cCS M18 GF d18 cTW, g26, F26.kp, d26⟩
  have GNI : FnOk l.prog w K mg base CX0 1 (He.ma K (He.ga K "Net") "__init__") _ ["self"] (spNI (He.ga K "Net")) := ok_ni F27 TN
  have GNn : FnOk l.prog w K mg base CX0 1 (He.ma K (He.ga K "Net") "new_node") _ ["self", "reads"] (spNn (He.ga K "Net")) := ok_nn F28 TN m_len
  have GNp : FnOk l.prog w K mg base CX0 2 (He.ma K (He.ga K "Net") "new_piece") _ ["self", "reads"] (spNp (He.ga K "Net")) := ok_np F29 TN M28 GNn d28
  have GNl : FnOk l.prog w K mg base CX0 1 (He.ma K (He.ga K "Net") "link") _ ["self", "one", "other"] (spNl (He.ga K "Net")) := ok_nl F30 TN
  have cRl : Cl l.prog w K mg base "read_letters" 1 ["letters", "sign"] spRl (He.ga K "read_letters") _ := ⟨ok_rl F31, g31, F31.kp, d31⟩
  have cPn : Cl l.prog w K mg base "pattern_net" 3 ["letters", "pattern"] (spPn (He.ga K "Net")) (He.ga K "pattern_net") _ := ⟨ok_pn F32 TN MK_Net gT_Net GNI d27 M29 GNp d29 M30 GNl d30 cRl ⟨_, h_FIRST_NODE⟩ ⟨_, h_LAST_NODE⟩, g32, F32.kp, d32⟩
  have cJu : Cl l.prog w K mg base "jumped" 1 ["net", "nodes"] (spJu (He.ga K "Net")) (He.ga K "jumped") _ := ⟨ok_ju F33 TN m_list m_sorted m_tuple ⟨_, h_LAST_NODE⟩, g33, F33.kp, d33⟩
  have cRon : Cl l.prog w K mg base "read_on" 2 ["net", "nodes", "letter"] (spRon (He.ga K "Net")) (He.ga K "read_on") _ := ⟨ok_ron F34 TN cJu, g34, F34.kp, d34⟩
  have cNms : Cl l.prog w K mg base "condition_names" 1 ["condition"] spNms (He.ga K "condition_names") _ := ⟨ok_nms F35 m_reversed m_list, g35, F35.kp, d35⟩
  have cPo : Cl l.prog w K mg base "parts_of" 1 ["program"] spPo (He.ga K "parts_of") _ := ⟨ok_po F36 gU_ASKING_KINDS U_ASKING_KINDS, g36, F36.kp, d36⟩
  have GNo : GFn2 l.prog w K mg base 2 (He.ga K "nodes_of") _ ["program"] ["waiting"] spNd := ok_no F37 m_reversed cPo
  have cPnm : Cl l.prog w K mg base "program_names" 6 ["program"] spPnm (He.ga K "program_names") _ := ⟨ok_pnm F38 cNms GNo g37 F37.kp d37 m_list gU_ASKING_KINDS U_ASKING_KINDS, g38, F38.kp, d38⟩
  have cPh : Cl l.prog w K mg base "pattern_holds" 4 ["letters", "pattern", "text"] spPh (He.ga K "pattern_holds") _ := ⟨ok_ph F39 cCk cPn cJu cRon ⟨_, h_FIRST_NODE⟩ ⟨_, h_LAST_NODE⟩, g39, F39.kp, d39⟩
  have cSh : Cl l.prog w K mg base "simple_holds" 8 ["letters", "condition", "text"] spSh (He.ga K "simple_holds") _ := ⟨ok_sh F40 m_len cPh TC MK_Template gT_Template GTI d13 M19 GM d19 cCm gD_HOLDING_WORDS kH, g40, F40.kp, d40⟩
  have cCn : Cl l.prog w K mg base "check_no_names" 2 ["condition"] spCno (He.ga K "check_no_names") _ := ⟨ok_cn F41 cNms, g41, F41.kp, d41⟩
  have cNh : Cl l.prog w K mg base "nameless_holds" 9 ["letters", "condition", "text"] spSh (He.ga K "nameless_holds") _ := ⟨ok_nh F42 cSh, g42, F42.kp, d42⟩
  have cCh : Cl l.prog w K mg base "condition_holds" 10 ["letters", "condition", "text"] spSh (He.ga K "condition_holds") _ := ⟨ok_ch F43 cCn cCk cNh, g43, F43.kp, d43⟩
  have cChn : Cl l.prog w K mg base "check_nameless" 7 ["program"] spNl2 (He.ga K "check_nameless") _ := ⟨ok_chn F44 cPnm, g44, F44.kp, d44⟩
  have cUnf : Cl l.prog w K mg base "unfolded" 2 ["left"] spUnf (He.ga K "unfolded") _ := ⟨ok_unf m_reversed F45, g45, F45.kp, d45⟩
  have cFte : Cl l.prog w K mg base "filled_text" 7 ["letters", "fill", "text"] spFte (He.ga K "filled_text") _ := ⟨ok_fte F46 m_len TC MK_Template gT_Template GTI d13 M17 GLen d17 M18 GF d18 ⟨_, h_MOST_TEXT⟩, g46, F46.kp, d46⟩
  have cSte : Cl l.prog w K mg base "stepped" 11 ["letters", "text", "left"] spSte (He.ga K "stepped") _ := ⟨ok_ste F47 cUnf cFte cCh, g47, F47.kp, d47⟩
  have GRi : FnOk l.prog w K mg base CX0 8 (He.ma K (He.ga K "Run") "__init__") _ ["self", "letters", "program", "text"] (spRi (He.ga K "Run")) := ok_ri F48 TR cCL cChn cCk
  have GSt : FnOk l.prog w K mg base CX0 1 (wfP K (He.ga K "Run") "state") _ ["self"] (spRst (He.ga K "Run")) := ok_rst F49 TR
  have GPr : FnOk l.prog w K mg base CX0 1 (wfP K (He.ga K "Run") "present") _ ["self"] (spRpr (He.ga K "Run")) := ok_rpr F50 TR
  have GWo : FnOk l.prog w K mg base CX0 1 (wfP K (He.ga K "Run") "word") _ ["self"] (spRwo (He.ga K "Run")) := ok_rwo F51 TR
  have GSs : FnOk l.prog w K mg base CX0 1 (wfP K (He.ga K "Run") "steps") _ ["self"] (spRss (He.ga K "Run")) := ok_rss F52 TR m_len
  have GSp : FnOk l.prog w K mg base CX0 12 (He.ma K (He.ga K "Run") "step") _ ["self"] (spRsp (He.ga K "Run")) := ok_rsp F53 TR R49 GSt d49 cSte
  have GGo : FnOk l.prog w K mg base CX0 13 (He.ma K (He.ga K "Run") "go") _ ["self", "many"] (spRg2 (He.ga K "Run")) := ok_rg2 F54 TR R49 GSt d49 M53 GSp d53
  have GRp : FnOk l.prog w K mg base CX0 3 (He.ma K (He.ga K "Run") "__repr__") _ ["self"] (spRrp (He.ga K "Run")) := ok_rrp F55 TR m_len R49 GSt d49
  have cDs : Cl l.prog w K mg base "_law_draws" 1 ["_law_script"] (spDraws K) (He.ga K "_law_draws") _ := ⟨ok_draws F56 m_int m_list, g56, F56.kp, d56⟩
  have cLt : Cl l.prog w K mg base "_law_letters" 3 ["_law_rng", "_law_most"] spLetters (He.ga K "_law_letters") _ := ⟨ok_letters F60 F57 d57 g57 F58 d58 g58 m_int m_len m_min m_range, g60, F60.kp, d60⟩
  have cWd : Cl l.prog w K mg base "_law_word" 3 ["_law_rng", "_law_signs", "_law_most"] spWord (He.ga K "_law_word") _ := ⟨ok_word F62 F57 d57 g57 F58 d58 g58 m_int m_len m_range, g62, F62.kp, d62⟩
  have cSm : Cl l.prog w K mg base "_law_same" 3 ["_law_found", "_law_due"] (spSm K 3) (He.ga K "_law_same") _ := ⟨ok_same F59 T d59 g59 3, g59, F59.kp, d59⟩
  have cIt : Cl l.prog w K mg base "_law_items" 3 ["_law_rng", "_law_signs", "_law_most"] spItems (He.ga K "_law_items") _ := ⟨ok_items F64 m_range cDr cTn cPk, g64, F64.kp, d64⟩
  have cLx : Cl l.prog w K mg base "_law_text" 1 ["_law_signs", "_law_items_here"] (spLx K) (He.ga K "_law_text") _ := ⟨ok_lx F65 m_len, g65, F65.kp, d65⟩
  have cFt : Cl l.prog w K mg base "_law_fill_text" 4 ["_law_rng", "_law_signs"] spLft (He.ga K "_law_fill_text") _ := ⟨ok_lft F71 m_len cIt cDr cTn cLx, g71, F71.kp, d71⟩
  have cPg : Cl l.prog w K mg base "_law_program" 12 ["_law_rng", "_law_signs", "_law_deep", "_law_conditions"] (spLpg 4) (He.ga K "_law_program") _ := ⟨lpg_all F72 m_range cDr cPk cFt d72 g72 4, g72, F72.kp, d72⟩
  have cLi : Cl l.prog w K mg base "_law_light" 3 ["_law_rng", "_law_signs"] spLli (He.ga K "_law_light") _ := ⟨ok_lli F77 cDr cPk cTn cLx, g77, F77.kp, d77⟩
  have cLT : Cl l.prog w K mg base "_law_turned" 1 ["_law_signs", "_law_my_turn", "_law_shown"] spTd (He.ga K "_law_turned") _ := ⟨ok_lturned F63, g63, F63.kp, d63⟩
  have cLf : Cl l.prog w K mg base "_law_fill" 2 ["_law_signs", "_law_items_here", "_law_shown"] (spLf K) (He.ga K "_law_fill") _ := ⟨ok_lf F66 m_len cLT, g66, F66.kp, d66⟩
  have cOr : Cl l.prog w K mg base "_law_order" 1 ["_law_signs", "_law_mine", "_law_yours"] spLOr (He.ga K "_law_order") _ := ⟨ok_lor F67 m_len m_range m_max, g67, F67.kp, d67⟩
  have cCp : Cl l.prog w K mg base "_law_compared" 2 ["_law_signs", "_law_mine", "_law_yours"] spTW (He.ga K "_law_compared") _ := ⟨ok_lcp F68 cOr, g68, F68.kp, d68⟩
  have cRi : Cl l.prog w K mg base "_law_read_items" 1 ["_law_signs", "_law_shown"] spLri (He.ga K "_law_read_items") _ := ⟨ok_lri F69 m_len m_range, g69, F69.kp, d69⟩
  have cFd : Cl l.prog w K mg base "_law_filled" 3 ["_law_signs", "_law_fill_here", "_law_shown"] spLfd (He.ga K "_law_filled") _ := ⟨ok_lfd F70 cLf cRi, g70, F70.kp, d70⟩
  have cAs : Cl l.prog w K mg base "_law_asked" 4 ["_law_signs", "_law_condition", "_law_shown"] spLas (He.ga K "_law_asked") _ := ⟨ok_las F78 m_int m_len cFd cCp, g78, F78.kp, d78⟩
  have cOp : Cl l.prog w K mg base "_law_open" 1 ["_law_rest"] spLop (He.ga K "_law_open") _ := ⟨ok_lop F74 m_list m_range, g74, F74.kp, d74⟩
  have cSa : Cl l.prog w K mg base "_law_state" 1 ["_law_state_here"] spLsa (He.ga K "_law_state") _ := ⟨ok_lsa F76, g76, F76.kp, d76⟩
  have cSs : Cl l.prog w K mg base "_law_start" 2 ["_law_my_program", "_law_shown"] spLss (He.ga K "_law_start") _ := ⟨ok_lss F75 cOp, g75, F75.kp, d75⟩
  have cSe : Cl l.prog w K mg base "_law_step" 5 ["_law_signs", "_law_state_here"] spLse (He.ga K "_law_step") _ := ⟨ok_lse F73 cOp cFd cAs, g73, F73.kp, d73⟩
  exact ok_law F79 m_len m_range m_repr m_str TR MK_Run gT_Run GRi d48 (kb_ru F48) (fun _ _ _ _ => rfl) R49 GSt d49 R50 GPr d50 R51 GWo d51 R52 GSs d52 D55 GRp d55 M53 GSp d53 M54 GGo d54 cDs cLt cLi cPg cWd cSs cSa cSe cSm
end Own
open PySem PySem.W PySem.Calls PyProof.Rows
set_option maxHeartbeats 0 in
theorem PySem.Challenge.cw_ownfill_k44_runs_step_by_step_holds : PySem.Challenge.rw_ownfill_k44_runs_step_by_step.Holds := by
  w_on; o_law
  refine HandSHeadRun.head_any (r := Own.hR) (q := view Own.hR.prog [91]) (H := Own.hk) (ob := Own.hob) (M := 8000) (loose := Own.hnames) (d := HandSHeadRun.topDef Own.hR.prog 91) (kwd := []) (fun s => Own.obsD_eq s) (by kernel_rfl) (fun s => by kernel_rfl) Own.hrun (by kernel_rfl) (by kernel_rfl) (by kernel_rfl) (by rfl) (by first | assumption | decide +kernel) (by decide +kernel) ⟨rfl, rfl, rfl, rfl, rfl, by decide +kernel⟩ ?hw ?hc
  case hw => w_witness2
  case hc =>
    refine L2.walk_ofE (l := PySem.Challenge.rw_ownfill_k44_runs_step_by_step) (n := 63) (k := 16) (x := "_law_script") (CX := L2.CX0) rfl (by decide) (by kernel_rfl) ⟨rfl, by decide, by decide⟩ ?F (fun _ _ _ _ z => z)
    intro w mg fa h Y G hmg0
    obtain ⟨K, KX, c⟩ := Y
    have hmg : mg ("law" : PySem.Str) = some (.ref fa) := by
      have e : (HandSHeadRun.topDef Own.hR.prog 91).name = ("law" : PySem.Str) := by kernel_rfl
      rw [← e]
      exact hmg0
    obtain ⟨fd, sp, h1, h2, h3⟩ := Own.ends (l := PySem.Challenge.rw_ownfill_k44_runs_step_by_step) (w := w) KX G hmg c
    exact ⟨K, fd, sp, KX, h1, h2, h3⟩
