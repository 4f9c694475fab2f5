package desk

import (
	"slices"

	"potbank/api"
	"potbank/limits"
	"potbank/lines"
)

// maxDigits is how many digits the greatest number of a command has.
const maxDigits = 10

// form is how a command is written: its word, and how many numbers stand behind it.
type form struct {
	kind int
	word string
	many int
}

// forms returns those of all commands, in the order of the chapter.
func forms() []form {
	return []form{
		{api.CmdShape, "shape", 11}, {api.CmdBody, "body", 7}, {api.CmdBox, "box", 6}, {api.CmdItem, "item", 3},
		{api.CmdSaggar, "saggar", 8}, {api.CmdWad, "wad", 2}, {api.CmdSpot, "spot", 2},
		{api.CmdOrder, "order", 5}, {api.CmdSeat, "seat", 4}, {api.CmdAccounts, "accounts", 1},
		{api.CmdMove, "move", 6}, {api.CmdCount, "count", 5}, {api.CmdCustom, "custom", 10}, {api.CmdClear, "clear", 0},

		{api.CmdKiln, "kiln", 8}, {api.CmdFall, "fall", 8}, {api.CmdSet, "set", 8}, {api.CmdRead, "read", 9},
		{api.CmdDrawn, "drawn", 4}, {api.CmdSold, "sold", 5}, {api.CmdBroken, "broken", 5}, {api.CmdSecond, "second", 5},
		{api.CmdWork, "work", 8}, {api.CmdClaim, "claim", 5}, {api.CmdWithdraw, "withdraw", 3},

		{api.CmdOffer, "offer", 2}, {api.CmdDeliver, "deliver", 1}, {api.CmdLose, "lose", 1}, {api.CmdDouble, "double", 1},
		{api.CmdRestart, "restart", 3}, {api.CmdPack, "pack", 1},

		{api.CmdPacked, "packed", 0}, {api.CmdRefuse, "refuse", 0}, {api.CmdBung, "bung", 0}, {api.CmdBungs, "bungs", 0},
		{api.CmdPlan, "plan", 0}, {api.CmdReason, "reason", 1}, {api.CmdWeight, "weight", 1}, {api.CmdStock, "stock", 2},
		{api.CmdCut, "cut", 2}, {api.CmdUneven, "uneven", 0},

		{api.CmdHeat, "heat", 4}, {api.CmdProve, "prove", 5}, {api.CmdConflict, "conflict", 3}, {api.CmdVerdict, "verdict", 3},
		{api.CmdVerdicts, "verdicts", 3}, {api.CmdTogether, "together", 3}, {api.CmdChanged, "changed", 3},
		{api.CmdRecalls, "recalls", 3}, {api.CmdMoved, "moved", 4}, {api.CmdRests, "rests", 3},
		{api.CmdDue, "due", 3}, {api.CmdPosts, "posts", 2}, {api.CmdBalance, "balance", 3}, {api.CmdShare, "share", 3},
		{api.CmdUnsettled, "unsettled", 2}, {api.CmdOutcome, "outcome", 3}, {api.CmdCounts, "counts", 0},
	}
}

// formWith returns the form that is the one; its kind is 0 if there is none.
func formWith(isOne func(f form) bool) form {
	l := forms()
	if i := slices.IndexFunc(l, isOne); i >= 0 {
		return l[i]
	}
	return form{}
}

func formOf(kind int) form { return formWith(func(f form) bool { return f.kind == kind }) }

func formFor(word string) form { return formWith(func(f form) bool { return f.word == word }) }

func isNumber(n int) bool { return limits.IsBetween(n, -api.MaxNumber, api.MaxNumber) }

// isRight reports whether a line can say the command.
func isRight(c api.Command) bool {
	f := formOf(c.Kind)
	return f.kind != 0 && len(c.Args) == f.many && !slices.ContainsFunc(c.Args, func(n int) bool { return !isNumber(n) })
}

// Parse reads a line; with ErrLine it returns the index of the first word that is wrong, missing, or one too many.
func Parse(line string) (api.Command, int, api.Errno) {
	if len(line) > api.MaxLine {
		return api.Command{}, 0, api.ErrLong
	}
	words := lines.Words(line)
	if len(words) == 0 {
		return api.Command{}, 0, api.ErrLine
	}
	f := formFor(words[0])
	if f.kind == 0 {
		return api.Command{}, 0, api.ErrLine
	}
	c := api.Command{Kind: f.kind}
	for i, word := range words[1:] {
		n, ok := lines.Signed(word, maxDigits)
		if !ok || !isNumber(n) || i == f.many {
			return api.Command{}, i + 1, api.ErrLine
		}
		c.Args = append(c.Args, n)
	}
	if len(c.Args) < f.many {
		return api.Command{}, len(words), api.ErrLine
	}
	return c, 0, api.OK
}

// Print returns the line of a command.
func Print(c api.Command) (string, api.Errno) {
	if !isRight(c) {
		return "", api.ErrLine
	}
	return lines.Line(formOf(c.Kind).word, c.Args...), api.OK
}
