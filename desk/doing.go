package desk

import (
	"potbank/api"
	"potbank/limits"
)

// doing is a right command that is being done at a desk. What refuses it leaves by a panic, ahead of the first change.
type doing struct {
	*Desk
	api.Command
}

// refusal is the error that a command is refused with.
type refusal api.Errno

// must refuses the command if there is an error.
func must(e api.Errno) {
	if e != api.OK {
		panic(refusal(e))
	}
}

// ask refuses the command with an error unless something is so.
func ask(is bool, e api.Errno) { must(limits.Unless(is, e)) }

// sure returns a value; it refuses the command if there is an error instead.
func sure[T any](v T, e api.Errno) T {
	must(e)
	return v
}

// do does a command and returns its answer, or the error that it is refused with.
func (d *Desk) do(c api.Command) (answer []string, err api.Errno) {
	if d == nil || !isRight(c) {
		return nil, api.ErrLine
	}
	defer func() {
		if r, is := recover().(refusal); is {
			answer, err = nil, api.Errno(r)
		}
	}()
	a := doing{d, c}
	act := a.acts()[c.Kind]
	return act(), api.OK
}

// acts has what each kind of command does.
func (a doing) acts() map[int]func() []string {
	return map[int]func() []string{
		api.CmdShape: a.shape, api.CmdBody: a.body, api.CmdBox: a.box, api.CmdItem: a.item,
		api.CmdSaggar: a.saggar, api.CmdWad: a.wad, api.CmdSpot: a.spot,
		api.CmdOrder: a.order, api.CmdSeat: a.seat, api.CmdAccounts: a.accounts,
		api.CmdMove: a.move, api.CmdCount: a.count, api.CmdCustom: a.custom, api.CmdClear: a.clear,

		api.CmdKiln: a.event, api.CmdFall: a.event, api.CmdSet: a.event, api.CmdRead: a.event,
		api.CmdDrawn: a.event, api.CmdSold: a.event, api.CmdBroken: a.event, api.CmdSecond: a.event,
		api.CmdWork: a.work, api.CmdClaim: a.claim, api.CmdWithdraw: a.withdraw,

		api.CmdOffer: a.offer, api.CmdDeliver: a.deliver, api.CmdLose: a.lose, api.CmdDouble: a.double,
		api.CmdRestart: a.restart, api.CmdPack: a.pack,

		api.CmdPacked: a.packed, api.CmdRefuse: a.refuse, api.CmdBung: a.bung, api.CmdBungs: a.bungs,
		api.CmdPlan: a.plan, api.CmdReason: a.reason, api.CmdWeight: a.weight, api.CmdStock: a.stock,
		api.CmdCut: a.cut, api.CmdUneven: a.uneven,

		api.CmdHeat: a.heat, api.CmdProve: a.prove, api.CmdConflict: a.conflict, api.CmdVerdict: a.verdict,
		api.CmdVerdicts: a.verdicts, api.CmdTogether: a.together, api.CmdChanged: a.changed,
		api.CmdRecalls: a.recalls, api.CmdMoved: a.moved, api.CmdRests: a.rests,
		api.CmdDue: a.due, api.CmdPosts: a.posts, api.CmdBalance: a.balance, api.CmdShare: a.share,
		api.CmdUnsettled: a.unsettled, api.CmdOutcome: a.outcome, api.CmdCounts: a.counts,
	}
}

// read puts the numbers of the command, in order, where they are meant to go.
func (a doing) read(numbers ...*int) {
	for i, n := range numbers {
		*n = a.Args[i]
	}
}

// readOf returns the house that the command is of, and puts the numbers behind it, in order, where they are meant to go.
func (a doing) readOf(numbers ...*int) int {
	house := a.Args[0]
	ask(isHouse(house), api.ErrArg)
	for i, n := range numbers {
		*n = a.Args[i+1]
	}
	return house
}

// isHigh returns which end of a range is asked for; the command is refused unless the number is 1 or 0.
func isHigh(number int) bool {
	ask(limits.IsBetween(number, 0, 1), api.ErrArg)
	return number == 1
}

// endOf returns the greatest number of a range, or the least one.
func endOf(r api.Range, high bool) int {
	if high {
		return r.Hi
	}
	return r.Lo
}
