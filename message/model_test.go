package message

// A second reckoning of the chapter, on texts of 0 and 1.

import (
	"fmt"
	"slices"
	"strconv"
	"strings"

	"balise/api"
)

// lowest is a text of n's lowest width bits.
func lowest(n int64, width int) string {
	text := fmt.Sprintf("%064b", uint64(n))
	return text[64-width:]
}

// text is a message's bits, without the noughts up to a whole byte.
func text(m api.Message) string {
	all := lowest(int64(m.Kind), 3) + lowest(int64(m.Train), 6) + lowest(m.Time, 25)
	switch m.Kind {
	case api.Report:
		whole := "0"
		if m.Whole {
			whole = "1"
		}
		return all + lowest(int64(m.Dir), 1) + lowest(int64(m.Ahead), 14) + whole + trailText(m.Trail)
	case api.Move:
		return all + trailText(m.Trail)
	}
	return all
}

func trailText(trail []int) string {
	all := lowest(int64(len(trail)), 4)
	for _, section := range trail {
		all += lowest(int64(section), 6)
	}
	return all
}

// packed is a text's bytes, with noughts up to a whole one.
func packed(text string) []byte {
	text += strings.Repeat("0", (8-len(text)%8)%8)
	p := []byte{}
	for ; text != ""; text = text[8:] {
		p = append(p, byte(number(text[:8])))
	}
	return p
}

// unpacked is the text of all bits of some bytes.
func unpacked(p []byte) string {
	all := ""
	for _, b := range p {
		all += fmt.Sprintf("%08b", b)
	}
	return all
}

func number(text string) int64 {
	n, err := strconv.ParseInt(text, 2, 64)
	if err != nil {
		panic(err)
	}
	return n
}

// trailAt is where the Trail's count stands, by the Kind: 0 if there is none.
func trailAt(kind int64) int {
	return map[int64]int{api.Report: 50, api.Move: 34}[kind]
}

// needed is how many bits a message has that begins so; more than are there,
// if its count of Trail isn't.
func needed(text string) int {
	at := trailAt(number(text[:3]))
	if at == 0 {
		return 34
	}
	if len(text) < at+4 {
		return at + 4
	}
	return at + 4 + 6*int(number(text[at:at+4]))
}

// read is what the bits are, as Decode should tell it.
func read(text string) (api.Message, api.Errno) {
	if text == "" {
		return api.Message{}, api.ErrShort
	}
	if first := text[:3]; first == "000" || first == "111" {
		return api.Message{}, api.ErrForm
	}
	size := needed(text)
	if len(text) < size {
		return api.Message{}, api.ErrShort
	}
	if rest := text[size:]; len(rest) > 7 || strings.Contains(rest, "1") {
		return api.Message{}, api.ErrForm
	}
	return fields(text, size), api.OK
}

func fields(text string, size int) api.Message {
	m := api.Message{Kind: byte(number(text[:3])), Train: int(number(text[3:9])), Time: number(text[9:34])}
	if m.Kind == api.Report {
		m.Dir, m.Ahead, m.Whole = int(number(text[34:35])), int(number(text[35:49])), text[49] == '1'
	}
	if at := trailAt(int64(m.Kind)); at > 0 {
		for i := at + 4; i < size; i += 6 {
			m.Trail = append(m.Trail, int(number(text[i:i+6])))
		}
	}
	return m
}

// alike holds two messages against one another by their texts: to them a nil
// list is like an empty one, too.
func alike(a, b api.Message) bool {
	return fmt.Sprintf("%+v", a) == fmt.Sprintf("%+v", b)
}

// copied shares nothing with m.
func copied(m api.Message) api.Message {
	m.Trail = slices.Clone(m.Trail)
	return m
}

// numbers tells numbers that are now great, now small, always the same ones.
type numbers uint32

func (n *numbers) below(limit int) int {
	*n = *n*1664525 + 1013904223
	return int(uint64(*n) * uint64(limit) >> 32)
}

// message is one that bits can tell, with no fields that its Kind hasn't.
func (n *numbers) message(kind byte) api.Message {
	m := api.Message{Kind: kind, Train: n.below(64), Time: int64(n.below(1 << 25))}
	if kind == api.Report {
		m.Dir, m.Ahead, m.Whole = n.below(2), n.below(1<<14), n.below(2) == 1
	}
	if kind == api.Report || kind == api.Move {
		m.Trail = n.trail(n.below(16))
	}
	return m
}

func (n *numbers) trail(size int) []int {
	trail := make([]int, size)
	for i := range trail {
		trail[i] = n.below(64)
	}
	return trail
}

// spoilt is a message's bits of which up to three bytes are others, and at
// times some at the end are missing, or more.
func (n *numbers) spoilt() []byte {
	body := packed(text(n.message(byte(1 + n.below(6)))))
	for range n.below(4) {
		body[n.below(len(body))] = byte(n.below(256))
	}
	switch n.below(4) {
	case 0:
		return body[:n.below(len(body))]
	case 1:
		return append(body, make([]byte, n.below(3))...)
	}
	return body
}

// messages are of each Kind and each count of Trail, the numbers now the
// least, now the greatest, now others.
func messages() []api.Message {
	n := numbers(1)
	var all []api.Message
	for kind := byte(api.Open); kind <= api.Move; kind++ {
		all = append(all, api.Message{Kind: kind})
		most := api.Message{Kind: kind, Train: 63, Time: 1<<25 - 1}
		if kind == api.Report {
			most.Dir, most.Ahead, most.Whole = 1, 1<<14-1, true
		}
		all = append(all, most)
		for size := range 16 {
			m := n.message(kind)
			if kind != api.Report && kind != api.Move {
				all = append(all, m)
				continue
			}
			m.Trail = n.trail(size)
			least, great := copied(m), copied(most)
			least.Trail, great.Trail = make([]int, size), slices.Repeat([]int{63}, size)
			all = append(all, m, least, great)
		}
	}
	return all
}
