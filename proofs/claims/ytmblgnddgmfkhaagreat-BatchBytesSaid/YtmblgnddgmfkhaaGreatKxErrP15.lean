import Derived.Test.YtmblgnddgmfkhaaGreatK40
set_option maxRecDepth 100000
set_option maxHeartbeats 4000000
namespace Go.Proofs.YtmblgnddgmfkhaaGreat
variable {st:RSt}
def EOk (st:RSt):Prop:=st.2=0∨st.2=10∨st.2=11∨st.2=13
theorem take_errs (l:List UInt8):(zb6 l).2.2=0∨(zb6 l).2.2=10∨(zb6 l).2.2=11:=by
 cases l with
 | nil=>exact .inr (.inl rfl)
 | cons b r =>
  have h:∀(f g j:Prop) [Decidable f] [Decidable g] [Decidable j] (x y:Nat),(if f then ((0,0,11):Nat × Nat × Nat) else if g then (0,0,10) else if j then (0,0,11) else (x,y,0)).2.2=0∨(if f then ((0,0,11):Nat × Nat × Nat) else if g then (0,0,10) else if j then (0,0,11) else (x,y,0)).2.2=10∨(if f then ((0,0,11):Nat × Nat × Nat) else if g then (0,0,10) else if j then (0,0,11) else (x,y,0)).2.2=11:=fun f g j _ _ _ x y=>by
   by_cases k:f
   · rw [yan k];exact .inr (.inr rfl)
   by_cases m:g
   · rw [yak k,yan m];exact .inr (.inl rfl)
   by_cases n:j
   · rw [yak k,yak m,yan n];exact .inr (.inr rfl)
   · rw [yak k,yak m,yak n];exact .inl rfl
  exact h _ _ _ _ _
theorem EOk.num (h:EOk st):EOk (zbn st).2:=by
 unfold zbn;split
 · exact h
 split
 · rcases take_errs st.1 with q | q | q
   · exact .inl q
   · exact .inr (.inl q)
   · exact .inr (.inr (.inl q))
 · exact .inl rfl
theorem EOk.text (h:EOk st):EOk (zaX st).2:=by
 unfold zaX;split
 · exact h.num
 split
 · exact .inr (.inl rfl)
 · exact .inl rfl
theorem EOk.steps (h:EOk st):∀k,EOk (steps k st).2
 | 0=>h
 | k + 1=>(h.steps k).text
theorem EOk.list (h:EOk st) (m:Nat):EOk (zcA st m).2:=by
 unfold zcA;split
 · exact h.num
 split
 · exact .inr (.inr (.inr rfl))
 split
 · exact h.num.steps _
 · exact h.num.steps _
section
variable {f:CoF}
theorem againE_st (p:Bp Tb TuP) (s:Sto Tb Nd15) (n:Nd15) (x:List UInt8 × RSt):(zg1 p s n x).2.2=x.2:=by unfold zg1;rfl
theorem againF_st (p:Bp Tb TuP) (s:Sto Tb Nd15) (n:Nd15) (x:List (List UInt8) × RSt):(zg2 p s n x).2.2=x.2:=by unfold zg2;rfl
theorem EOk.again (h:EOk st) (s:Sto Tb Nd15):EOk (zbk (p15 f) s st).2.2:=by
 have g:EOk (zdR st).2:=h.text.text.text;have b:=g.num;unfold zbk;generalize zbn (zdR st).2=k at *
 unfold zgl;by_cases q:k.1≠0
 · rw [yan q,againE_st];exact b.text
 · rw [yak q,againF_st];exact b.list _
theorem EOk.loop:∀(n:Nat) {s:Sto Tb Nd15} {st:RSt},EOk st→EOk (zin (p15 f) n s st).2.2
 | 0,_,_,h=>h
 | n + 1,s,st,h=>by
  unfold zin;split
  · exact EOk.loop n (h.again s)
  · exact h.again s
theorem unpack_errs (q:Int) (b:List UInt8):EOk (zaJ (p15 f) q b).2.2:=by
 have h:EOk (zbn (zbn (b,0)).2).2:=(show EOk (b,0) from .inl rfl).num.num;unfold zaJ;generalize zbn (zbn (b,0)).2=k at *
 have g:=(h.text).list 100000;unfold unpC;split
 · exact h
 · generalize zcA (zaX k.2).2 100000=L at *
   unfold unpE;split
   · exact g
   · exact EOk.loop _ g
theorem unk_errs (q:Int) (b:List UInt8):zka (zaJ (p15 f) q b) b=0∨zka (zaJ (p15 f) q b) b=10∨zka (zaJ (p15 f) q b) b=11∨zka (zaJ (p15 f) q b) b=13:=by
 have h:=unpack_errs (f:=f) q b;unfold zka;split
 · rcases h with q | q | q | q <;> rw [q] <;> simp
 · split
   · exact .inl rfl
   · exact .inr (.inr (.inl rfl))
end
theorem num_pos (n:Nat):1≤(num n).length:=by rw [zb4];omega
theorem text_pos (s:ByteArray):1≤(text s).length:=by rw [zdF];omega
theorem pack_four {s:Sto Tb Nd15} (h:s.L≠[]):4≤(zbj c15 s).length:=by
 unfold zbj;cases e:s.L with
 | nil=>exact absurd e h
 | cons v r =>
  dsimp only;have g:=num_pos s.floor.toNat;have j:=num_pos (revB s).toNat;have k:=text_pos v.text;have m:=num_pos v.keys.length;have b:c15.num=num:=rfl;have f:c15.txt=Go.Proofs.YtmblgnddgmfkhaaGreat.text:=rfl;rw [b,f];unfold lstC;rw [b];simp only [yam];omega
end Go.Proofs.YtmblgnddgmfkhaaGreat
