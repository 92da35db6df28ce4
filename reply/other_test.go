package reply_test

import (
	"math/big"
	"regexp"
	"slices"
	"strconv"
	"strings"

	"posthorn/api"
)

// Here are other roads to what Print and Read say: which replies there are, and with which a text begins.

const (
	rePlain  = `[ -~]{1,512}`
	reTag    = `(?:\*|[!#-$&',-\[^-z|}~]{1,32})`
	reCode   = `[ -\\^-~]{1,512}`
	reNumber = `(?:0|[1-9][0-9]*)`
	reFlags  = `\([^)]*\)`
	reBox    = `(?:[!#-$&'+-\[^-z|}~]{1,64}|"[!#-$&-)+-\[\]-~](?:[ !#-$&-)+-\[\]-~]{0,62}[!#-$&-)+-\[\]-~])?")`
	reCount  = `(?:MESSAGES|UIDNEXT|UIDVALIDITY|UNSEEN|HIGHESTMODSEQ) ` + reNumber
)

var (
	aTag     = regexp.MustCompile(`^` + reTag + `$`)
	aPlain   = regexp.MustCompile(`^` + rePlain + `$`)
	anAtom   = regexp.MustCompile(`^[!#-$&'+-\[^-z|}~]+$`)
	aKeyword = regexp.MustCompile(`^[!#-$&'+-@\[^-z|}~]{1,32}$`)
	aBox     = regexp.MustCompile(`^[!#-$&-)+-\[\]-~](?:[ !#-$&-)+-\[\]-~]{0,62}[!#-$&-)+-\[\]-~])?$`)
)

// mayFlags says whether flags are a set.
func mayFlags(l []string) bool {
	system := strings.Fields(`\Answered \Flagged \Deleted \Seen \Draft`)
	keys := []string{}
	for _, f := range l {
		place := slices.Index(system, f)
		if place < 0 && !aKeyword.MatchString(f) {
			return false
		}
		if place < 0 {
			f = "z" + f // behind those of the system
		} else {
			f = strconv.Itoa(place)
		}
		keys = append(keys, f)
	}
	return slices.IsSorted(keys) && len(slices.Compact(keys)) == len(l) && len(l) <= 16
}

func mayBox(s string) bool {
	return aBox.MatchString(s) && (s == "INBOX" || strings.ToLower(s) != "inbox")
}

func boxText(s string) string {
	if anAtom.MatchString(s) && strings.ToLower(s) != "nil" {
		return s
	}
	return `"` + s + `"`
}

func digits(n uint64) string { return strconv.FormatUint(n, 10) }

// said is a reply's text, and whether it is one.
func said(r api.Reply) (string, bool) {
	of := api.Reply{Kind: r.Kind}
	var text string
	may := r.N>>63 == 0
	switch r.Kind {
	case api.RepOk, api.RepNo, api.RepBad, api.RepBye:
		of.Tag, of.Code, of.Text = r.Tag, r.Code, r.Text
		may = may && aTag.MatchString(r.Tag) && (r.Kind != api.RepBye || r.Tag == "*") && aPlain.MatchString(r.Text) && r.Text[0] != '['
		code := ""
		if r.Code != "" {
			may = may && aPlain.MatchString(r.Code) && !strings.Contains(r.Code, "]")
			code = "[" + r.Code + "] "
		}
		text = r.Tag + " " + strings.Fields("OK NO BAD BYE")[r.Kind-1] + " " + code + r.Text
	case api.RepGo:
		of.Text = r.Text
		may = may && aPlain.MatchString(r.Text)
		text = "+ " + r.Text
	case api.RepCaps:
		text = "* CAPABILITY IMAP4rev1 ENABLE CONDSTORE"
	case api.RepEnabled:
		text = "* ENABLED CONDSTORE"
	case api.RepExists, api.RepExpunge:
		of.N = r.N
		text = "* " + digits(r.N) + " " + strings.Fields("EXISTS EXPUNGE")[r.Kind-api.RepExists]
	case api.RepFlags:
		of.Flags = r.Flags
		may = may && mayFlags(r.Flags)
		text = "* FLAGS (" + strings.Join(r.Flags, " ") + ")"
	case api.RepList:
		of.Box = r.Box
		may = may && mayBox(r.Box)
		text = `* LIST () "/" ` + boxText(r.Box)
	case api.RepStatus, api.RepFetch:
		of.Box, of.N, of.Values = r.Box, r.N, r.Values
		text = "* STATUS " + boxText(r.Box)
		if r.Kind == api.RepFetch {
			text = "* " + digits(r.N) + " FETCH"
			may = may && r.Box == ""
		} else {
			may = may && mayBox(r.Box) && r.N == 0
		}
		values, ok := valuesSaid(r)
		may = may && ok
		text += " (" + values + ")"
	case api.RepSearch:
		of.Nums, of.Mod = r.Nums, r.Mod
		may = may && len(r.Nums) <= 64 && r.Mod>>63 == 0
		text = "* SEARCH"
		for _, n := range r.Nums {
			may = may && n>>63 == 0
			text += " " + digits(n)
		}
		if r.Mod > 0 {
			text += " (MODSEQ " + digits(r.Mod) + ")"
		}
	default:
		return "", false
	}
	return text + crlf, may && alike(r, of)
}

// valuesSaid is the text of a reply's values, and whether they may stand there.
func valuesSaid(r api.Reply) (string, bool) {
	may := len(r.Values) >= 1 && len(r.Values) <= 10
	var texts []string
	for _, v := range r.Values {
		of := api.Value{Kind: v.Kind}
		if v.Kind < 1 || v.Kind > 12 || (v.Kind <= 5) != (r.Kind == api.RepStatus) {
			return "", false
		}
		text := strings.Fields("MESSAGES UIDNEXT UIDVALIDITY UNSEEN HIGHESTMODSEQ FLAGS UID RFC822.SIZE MODSEQ BODY[] BODY[HEADER] BODY[TEXT]")[v.Kind-1]
		switch {
		case v.Kind == api.ItemFlags:
			of.Flags = v.Flags
			may = may && mayFlags(v.Flags)
			text += " (" + strings.Join(v.Flags, " ") + ")"
		case v.Kind == api.ItemModseq:
			of.N = v.N
			text += " (" + digits(v.N) + ")"
		case v.Kind < api.ItemModseq:
			of.N = v.N
			text += " " + digits(v.N)
		default:
			of.Text, of.Part = v.Text, v.Part
			if v.Part {
				of.From = v.From
				text += "<" + digits(v.From) + ">"
			}
			may = may && len(v.Text) <= 4096 && v.From>>63 == 0
			text += " {" + strconv.Itoa(len(v.Text)) + "}" + crlf + v.Text
		}
		may = may && v.N>>63 == 0 && alike(api.Reply{Values: []api.Value{v}}, api.Reply{Values: []api.Value{of}})
		texts = append(texts, text)
	}
	return strings.Join(texts, " "), may
}

var (
	aLine = []*regexp.Regexp{
		regexp.MustCompile(`^` + reTag + ` (?:OK|NO|BAD) (?:\[` + reCode + `\] )?` + `[ -Z\\-~]` + `[ -~]{0,511}\r\n`),
		regexp.MustCompile(`^\* BYE (?:\[` + reCode + `\] )?` + `[ -Z\\-~]` + `[ -~]{0,511}\r\n`),
		regexp.MustCompile(`^\+ ` + rePlain + `\r\n`),
		regexp.MustCompile(`^\* CAPABILITY IMAP4rev1 ENABLE CONDSTORE\r\n`),
		regexp.MustCompile(`^\* ENABLED CONDSTORE\r\n`),
		regexp.MustCompile(`^\* ` + reNumber + ` (?:EXISTS|EXPUNGE)\r\n`),
		regexp.MustCompile(`^\* FLAGS ` + reFlags + `\r\n`),
		regexp.MustCompile(`^\* LIST \(\) "/" ` + reBox + `\r\n`),
		regexp.MustCompile(`^\* STATUS ` + reBox + ` \(` + reCount + `(?: ` + reCount + `){0,9}\)\r\n`),
		regexp.MustCompile(`^\* SEARCH(?: ` + reNumber + `){0,64}(?: \(MODSEQ ` + reNumber + `\))?\r\n`),
	}
	aFetch    = regexp.MustCompile(`^\* ` + reNumber + ` FETCH \(`)
	aValue    = regexp.MustCompile(`^(?:FLAGS ` + reFlags + `|UID ` + reNumber + `|RFC822\.SIZE ` + reNumber + `|MODSEQ \(` + reNumber + `\)|BODY\[(?:|HEADER|TEXT)\](?:<` + reNumber + `>)? \{(` + reNumber + `)\}\r\n)`)
	aNumber   = regexp.MustCompile(`(?:^| |\(|<)([0-9]+)(?:$| |\)|>|\r)`)
	aFlagList = regexp.MustCompile(`FLAGS \(([^)]*)\)`)
	aName     = regexp.MustCompile(`"[^"]*"|^\* STATUS [^ ]+`)
	boxIn     = regexp.MustCompile(`^\* (?:STATUS|LIST \(\) "/") (` + reBox + `)(?: \(| ?\r\n)`)
)

// begins is how many bytes the reply has with which a text begins; 0 of none.
func begins(s string) int {
	for i, re := range aLine {
		line := re.FindString(s)
		switch {
		case line == "":
			continue
		case i < 5: // what these say is any text
		case !mayNumbers(line) || !mayFlagLists(line) || strings.Contains(line, "(MODSEQ 0)"):
			return 0
		case i == 7 || i == 8:
			name := boxIn.FindStringSubmatch(line)[1]
			if box := strings.Trim(name, `"`); !mayBox(box) || boxText(box) != name {
				return 0
			}
		}
		return len(line)
	}
	at := len(aFetch.FindString(s))
	if at == 0 || !mayNumbers(s[:at]) {
		return 0
	}
	for range 10 {
		m := aValue.FindStringSubmatch(s[at:])
		if m == nil || !mayNumbers(m[0]) || !mayFlagLists(m[0]) {
			return 0
		}
		at += len(m[0])
		if m[1] != "" {
			n, e := strconv.Atoi(m[1])
			if e != nil || n > 4096 || n > len(s)-at {
				return 0
			}
			at += n
		}
		switch {
		case strings.HasPrefix(s[at:], ")"+crlf):
			return at + 3
		case !strings.HasPrefix(s[at:], " "):
			return 0
		}
		at++
	}
	return 0
}

// mayNumbers says whether no number of a text is too great.
func mayNumbers(s string) bool {
	s = aName.ReplaceAllString(s, "") // names have digits of their own
	for _, m := range aNumber.FindAllStringSubmatch(strings.ReplaceAll(s, " ", "  "), -1) {
		n, _ := new(big.Int).SetString(m[1], 10)
		if !n.IsInt64() {
			return false
		}
	}
	return true
}

// mayFlagLists says whether the flags of a text are sets.
func mayFlagLists(s string) bool {
	for _, m := range aFlagList.FindAllStringSubmatch(s, -1) {
		if m[1] != "" && !mayFlags(strings.Split(m[1], " ")) {
			return false
		}
	}
	return true
}
