package swipe

import "swipe/api"

// account: what is kept of a card. Only the worker whose share the card belongs to touches it while there is work.
type account struct {
	worker   int
	name     string // as a report tells it
	left     int
	verdicts map[visit]verdict
}

// visit tells one request of a card from another.
type visit struct {
	kind  string
	trace int
	place string
}

// verdict: what the answer to a request has that its visit does not tell.
type verdict struct {
	amount int
	code   string
}

// settle tells the verdict on a request, and what was spent by it: less than 0, if it was taken back (P9, P10).
func (a *account) settle(m api.Message) (verdict, int) {
	at := visit{kind: m.Kind, trace: m.Trace, place: m.Place}
	if before, ok := a.verdicts[at]; ok {
		return before, 0
	}
	v := verdict{amount: m.Amount, code: a.judge(at, m.Amount)}
	// What there is not to be taken back may be there when the request comes again.
	if v.code != codeNoSpend {
		a.verdicts[at] = v
	}
	spent := spentBy(m.Kind, v)
	a.left -= spent
	return v, spent
}

func spentBy(kind string, v verdict) int {
	if v.code != codeOK {
		return 0
	}
	if kind == askSpend {
		return v.amount
	}
	return -v.amount
}

func (a *account) judge(at visit, amount int) string {
	if at.kind == askSpend {
		return a.judgeSpending(amount)
	}
	return a.judgeTakingBack(at, amount)
}

func (a *account) judgeSpending(amount int) string {
	if amount == 0 {
		return codeAmount
	}
	if amount > a.left {
		return codeTooMuch
	}
	return codeOK
}

func (a *account) judgeTakingBack(at visit, amount int) string {
	spent := a.granted(askSpend, at)
	if spent == 0 || a.takenBack(at) {
		return codeNoSpend
	}
	if amount == 0 || amount > spent {
		return codeAmount
	}
	return codeOK
}

// takenBack tells whether what was spent at a visit was taken back, by either kind.
func (a *account) takenBack(at visit) bool {
	return a.granted(askBack, at) > 0 || a.granted(tellBack, at) > 0
}

// granted tells the amount to which a request of a kind was answered 00 at a visit: 0, if none was (for 0 never is).
func (a *account) granted(kind string, at visit) int {
	at.kind = kind
	v := a.verdicts[at]
	if v.code != codeOK {
		return 0
	}
	return v.amount
}
