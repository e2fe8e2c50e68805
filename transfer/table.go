package transfer

import (
	"paddock/api"
	"paddock/span"
)

// effect is what an instruction does to what is known.
type effect func() api.Step

// row is an operation's row of the table.
type row struct {
	does effect
}

// step is what the instruction at hand does. Its operation is one that there is, so that it has a row.
func (x *spot) step() api.Step {
	rows := [...]row{
		api.LI:      {x.lays(x.imm)},
		api.MOV:     {x.lays(x.b)},
		api.ADD:     {x.reckons(api.ADD, x.c)},
		api.SUB:     {x.reckons(api.SUB, x.c)},
		api.MUL:     {x.reckons(api.MUL, x.c)},
		api.AND:     {x.reckons(api.AND, x.c)},
		api.OR:      {x.reckons(api.OR, x.c)},
		api.XOR:     {x.reckons(api.XOR, x.c)},
		api.SHL:     {x.reckons(api.SHL, x.c)},
		api.SHR:     {x.reckons(api.SHR, x.c)},
		api.ADDI:    {x.reckons(api.ADD, x.imm)},
		api.SLT:     {x.reckons(api.SLT, x.c)},
		api.SEQ:     {x.reckons(api.SEQ, x.c)},
		api.JMP:     {x.jumps},
		api.BEQ:     {x.branches(api.BEQ, api.BNE)},
		api.BNE:     {x.branches(api.BNE, api.BEQ)},
		api.BLT:     {x.branches(api.BLT, api.BGE)},
		api.BGE:     {x.branches(api.BGE, api.BLT)},
		api.CPC:     {x.lays(x.codePoint)},
		api.JC:      {x.jumpsByCap},
		api.HALT:    {x.takes(ends)},
		api.TRAP:    {ends},
		api.IN:      {x.lays(anyInteger)},
		api.OUT:     {x.takes(x.stays)},
		api.CALL:    {x.calls},
		api.RET:     {x.returns},
		api.CINC:    {x.moves(x.c)},
		api.CINCI:   {x.moves(x.imm)},
		api.CSETB:   {x.narrows(x.c)},
		api.CSETBI:  {x.narrows(x.imm)},
		api.CANDP:   {x.keeps},
		api.CSEAL:   {x.seals},
		api.CUNSEAL: {x.unseals},
		api.CADDR:   {x.points},
		api.CBASE:   {x.asks(aCap, base)},
		api.CEND:    {x.asks(aCap, end)},
		api.CPERM:   {x.asks(aCap, perms)},
		api.CSEALED: {x.asks(aCap, seal)},
		api.CTAG:    {x.asks(anything, tag)},
		api.CSAME:   {x.same},
		api.LB:      {x.loads(1, api.Span{Lo: 0, Hi: 255})},
		api.LW:      {x.loads(8, span.Full())},
		api.SB:      {x.stores(1)},
		api.SW:      {x.stores(8)},
		api.LC:      {x.loadsCap},
		api.SC:      {x.storesCap},
		api.GLT:     {x.limits(api.BLT)},
		api.GGE:     {x.limits(api.BGE)},
		api.GTAG:    {x.decides(anything, tagged)},
		api.GIN:     {x.decides(aCap, inside)},
		api.GPERM:   {x.decides(aCap, permitted)},
		api.GSEAL:   {x.decides(aCap, sealedBy)},
	}
	return rows[x.inst.Op].does()
}
