package vault_test

import (
	"fmt"
	"strconv"
	"strings"
)

// list is a machine whose state is the list of the commands that it did. What it tells of one hangs on those ahead of it.
type list struct {
	did []string
	// What was done with it, in order.
	calls []string
	// What is to happen in the midst of a command.
	during func(cmd string)
}

func (m *list) Do(cmd string) string {
	m.calls = append(m.calls, "do "+cmd)
	if m.during != nil {
		m.during(cmd)
	}
	m.did = append(m.did, cmd)
	return told(m.did)
}

func (m *list) Save() string {
	return saved(m.did)
}

func (m *list) Load(state string) bool {
	m.calls = append(m.calls, "load "+state)
	l, ok := read(state)
	if ok {
		m.did = l
	}
	return ok
}

// told is what a list tells of the last of its commands.
func told(did []string) string {
	return fmt.Sprintf("%d commands, %d bytes, the last is %s", len(did), len(strings.Join(did, "")), did[len(did)-1])
}

// saved is the text of a list's state: a line for each command, behind a first one.
func saved(did []string) string {
	s := "list"
	for _, cmd := range did {
		s += "\n" + strconv.Quote(cmd)
	}
	return s
}

// read is the state of a list's text.
func read(state string) ([]string, bool) {
	lines := strings.Split(state, "\n")
	if lines[0] != "list" {
		return nil, false
	}
	var did []string
	for _, line := range lines[1:] {
		cmd, err := strconv.Unquote(line)
		if err != nil {
			return nil, false
		}
		did = append(did, cmd)
	}
	return did, true
}

// row is the chapter's machine: its state is a text to which a command adds itself.
type row struct{ state string }

func (m *row) Do(cmd string) string {
	m.state += cmd
	return m.state
}

func (m *row) Save() string { return "=" + m.state }

func (m *row) Load(state string) bool {
	rest, ok := strings.CutPrefix(state, "=")
	if ok {
		m.state = rest
	}
	return ok
}
