package msg

import "stanchion/api"

// checkMsg: it is a fault, if the message isn't right.
func checkMsg(m api.Msg) {
	parts := partsOf(m.Kind)
	for _, p := range parts {
		checkPart(m, p)
	}
	checkEmpty(m, parts)
}

// checkPart: likewise of one part that its kind has.
func checkPart(m api.Msg, p part) {
	switch p {
	case view:
		need(below(m.View, api.MaxWide))
	case seq:
		need(below(m.Seq, api.MaxWide))
	case client:
		need(below(m.Client, api.MaxPeers))
	case stamp:
		need(below(m.Stamp, api.MaxWide))
	case entry:
		checkEntry(m.Entry)
	case digest:
		need(len(m.Digest) == digestSize)
	case data:
		need(len(m.Data) <= maxData(m.Kind))
	case proof:
		checkLetters(m.Proof)
	case proven:
		checkList(m.Proven, maxProven, checkProven)
	}
}

// checkEmpty: likewise of the parts that its kind doesn't have.
func checkEmpty(m api.Msg, parts []part) {
	e := m.Entry
	empty := map[part]int{
		view:   m.View,
		seq:    m.Seq,
		client: m.Client,
		stamp:  m.Stamp,
		entry:  e.Client | e.Stamp | e.Time | len(e.Digest), // 0, if each of them is
		digest: len(m.Digest),
		data:   len(m.Data),
		proof:  len(m.Proof),
		proven: len(m.Proven),
	}
	for _, p := range parts {
		delete(empty, p)
	}
	for _, n := range empty {
		need(n == 0)
	}
}

// maxData: how many bytes a kind's Data may have.
func maxData(kind int) int {
	if kind == api.MRequest || kind == api.MBody {
		return api.MaxOp
	}
	return api.MaxField
}

// checkEntry: it is a fault, if the entry isn't right.
func checkEntry(e api.Entry) {
	need(below(e.Time, api.MaxWide))
	if e.Client == -1 {
		need(e.Stamp == 0 && len(e.Digest) == 0)
		return
	}
	need(below(e.Client, api.MaxPeers))
	need(below(e.Stamp, api.MaxWide))
	need(len(e.Digest) == digestSize)
}

// checkLetter: it is a fault, if the letter isn't right.
func checkLetter(l api.Letter) {
	checkRole(l.From.Role)
	checkRole(l.Role)
	need(below(l.From.N, maxSenders))
	need(len(l.Body) <= api.MaxField)
	checkList(l.Tags, api.MaxTags, func(tag []byte) { need(len(tag) <= maxTag) })
}

// checkRole: it is a fault, if there is no such role.
func checkRole(role int) {
	need(role >= api.Keeper && role <= api.Peer)
}

// checkLetters: it is a fault, if there are too many letters, or one isn't right.
func checkLetters(list []api.Letter) {
	checkList(list, api.MaxTags, checkLetter)
}

// checkProven: it is a fault, if this, of a message, isn't right.
func checkProven(p api.Proven) {
	need(below(p.Seq, api.MaxWide))
	need(below(p.View, api.MaxWide))
	checkEntry(p.Entry)
	checkLetters(p.Votes)
}

// checkList: it is a fault, if there are more than most, or check finds one.
func checkList[T any](list []T, most int, check func(T)) {
	need(len(list) <= most)
	for _, x := range list {
		check(x)
	}
}
