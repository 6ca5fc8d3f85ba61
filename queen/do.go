package queen

import "leazing/api"

// doing is a command that is being done, at a queen. What is wrong with it leaves by a panic, before anything is changed that may not be.
type doing struct {
	*Queen
	api.Command
}

// demand panics with an error, unless it is OK.
func demand(e api.Errno) {
	if e != api.OK {
		panic(e)
	}
}

// must returns a result, and panics if there is an error.
func must[T any](x T, e api.Errno) T {
	demand(e)
	return x
}

// Do does a command and returns its answer.
func (q *Queen) Do(c api.Command) (lines []string) {
	defer func() {
		if wrong := recover(); wrong != nil {
			lines = refusal(wrong)
		}
	}()
	f, right := rightForm(c)
	demand(verdict(q != nil && right, api.ErrWords))
	demand(verdict(!f.ofParish() || isParish(c.Args[0]), api.ErrArg))
	return doing{q, c}.deed()()
}

// deed returns what the command does.
func (d doing) deed() func() []string {
	if within(d.Kind, api.CmdLoad, api.CmdMade) {
		return d.note
	}
	if change, found := d.changes()[d.Kind]; found {
		return change
	}
	return d.queries()[d.Kind]
}

// changes returns what the commands do that change the queen, but for those that note what they say.
func (d doing) changes() map[int]func() []string {
	return map[int]func() []string{
		api.CmdField:    d.field,
		api.CmdChain:    d.chain,
		api.CmdCell:     d.cell,
		api.CmdClaim:    d.claim,
		api.CmdYield:    d.yield,
		api.CmdMill:     d.mill,
		api.CmdComer:    d.comer,
		api.CmdScale:    d.scale,
		api.CmdBlank:    d.blank,
		api.CmdWithdraw: d.withdraw,
		api.CmdSend:     d.send,
		api.CmdDeliver:  d.deliver,
		api.CmdLose:     d.lose,
		api.CmdDouble:   d.double,
		api.CmdTorn:     d.torn,
		api.CmdWant:     d.want,
		api.CmdRing:     d.ring,
		api.CmdShut:     d.shut,
		api.CmdServe:    d.serve,
		api.CmdBind:     d.bind,
		api.CmdTear:     d.tear,
		api.CmdRecopy:   d.recopy,
		api.CmdTell:     d.tell,
		api.CmdHear:     d.hear,
		api.CmdMiss:     d.miss,
		api.CmdAgain:    d.again,
	}
}

// queries returns what the commands do that ask for something.
func (d doing) queries() map[int]func() []string {
	return map[int]func() []string{
		api.CmdOpen:     d.open,
		api.CmdClear:    d.clear,
		api.CmdStood:    d.stood,
		api.CmdFirst:    d.first,
		api.CmdMisled:   d.misled,
		api.CmdSettled:  d.settled,
		api.CmdRight:    d.right,
		api.CmdBelong:   d.belong,
		api.CmdReadings: d.readings,
		api.CmdRests:    d.rests,
		api.CmdFamilies: d.families,
		api.CmdSure:     d.sure,
		api.CmdMay:      d.may,
		api.CmdHeads:    d.heads,
		api.CmdShare:    d.share,
		api.CmdCrowded:  d.crowded,
		api.CmdLength:   d.length,
		api.CmdGrind:    d.grind,
		api.CmdHours:    d.hours,
		api.CmdLevel:    d.level,
		api.CmdFlour:    d.flour,
		api.CmdHave:     d.have,
		api.CmdWent:     d.went,
		api.CmdTotal:    d.total,
		api.CmdCert:     d.cert,
		api.CmdFence:    d.fence,
		api.CmdClash:    d.clash,
		api.CmdBread:    d.bread,
		api.CmdAccount:  d.account,
		api.CmdWho:      d.who,
		api.CmdMissing:  d.missing,
		api.CmdRecords:  d.records,
	}
}
