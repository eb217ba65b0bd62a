package coord

import (
	"testing"
)

// P18.5: a Hello is said again Pause ticks behind each time, not one tick earlier; so is the Do, from the Welcome on; what was done isn't.
func TestTickDo(t *testing.T) {
	d := newDesk(t)
	d.ticks("", "", "", "")
	d.begins(1)
	d.ticks("", "", "", "")
	d.runs("do 1 2 put k v > hello 1 2")
	d.ticks("", "", "hello 1 2", "", "", "hello 1 2", "", "")
	d.runs("welcome 1 2 7 > do 1 2 7 1 put k v")
	d.ticks("", "", "do 1 2 7 1 put k v", "", "", "do 1 2 7 1 put k v", "")
	// What is nothing doesn't count.
	d.runs("welcome 1 2 7 >", "did 1 2 2 ok >", "vote 1 2 ok >", "ask 1 2 >", "ack 1 2 >", "do 1 0 get k > !turn", "commit 1 > !turn")
	d.ticks("", "do 1 2 7 1 put k v")
	d.runs("did 1 2 1 ok > told 1 ok")
	d.ticks("", "", "", "", "")
	d.runs("do 1 2 get k > do 1 2 7 2 get k")
	d.ticks("", "", "do 1 2 7 2 get k")
	d.runs("did 1 2 2 ok=v > told 1 ok=v", "do 1 0 get k > hello 1 0")
	d.ticks("", "", "hello 1 0")
}

// P18.5: Prepares go again to those that haven't said that they can; a vote doesn't put them off.
func TestTickPrepare(t *testing.T) {
	d := newDesk(t)
	d.begins(1)
	d.does("1", 2, 7, 1)
	d.does("1", 9, 8, 1)
	d.does("1", 0, 6, 1)
	d.does("1", 2, 7, 2)
	d.ticks("", "", "", "")
	d.runs("commit 1 > prepare 1 0 6 1; prepare 1 2 7 2; prepare 1 9 8 1")
	d.ticks("", "", "prepare 1 0 6 1; prepare 1 2 7 2; prepare 1 9 8 1", "")
	d.runs("vote 1 2 ok >")
	d.ticks("", "prepare 1 0 6 1; prepare 1 9 8 1", "")
	d.runs("vote 1 2 ok >", "vote 1 0 ok >")
	d.ticks("", "prepare 1 9 8 1", "", "", "prepare 1 9 8 1")
	d.runs("vote 1 9 ok > commit 1 0; commit 1 2; commit 1 9; told 1 ok")
}

// P18.5: Commits go again to the nodes that have to know it still, till all do; an Ack, or an Ask, doesn't put them off.
func TestTickCommit(t *testing.T) {
	d := newDesk(t)
	d.begins(1)
	d.does("1", 2, 7, 1)
	d.does("1", 9, 8, 1)
	d.does("1", 0, 6, 1)
	d.runs("commit 1 > prepare 1 0 6 1; prepare 1 2 7 1; prepare 1 9 8 1")
	d.ticks("")
	d.runs("vote 1 2 ok >", "vote 1 9 ok >", "vote 1 0 ok > commit 1 0; commit 1 2; commit 1 9; told 1 ok")
	d.ticks("", "", "commit 1 0; commit 1 2; commit 1 9", "")
	d.runs("ack 1 2 >")
	d.ticks("", "commit 1 0; commit 1 9", "")
	d.runs("ask 1 0 > commit 1 0", "ack 1 3 >")
	d.ticks("", "commit 1 0; commit 1 9", "")
	d.runs("ack 1 9 >")
	d.ticks("", "commit 1 0", "", "")
	d.runs("ack 1 0 >")
	d.ticks("", "", "", "", "")
}

// P18.5: at one Tick those under way are ahead of those decided, of each the elder ones ahead, whatever the order in which they were said.
func TestTickOrder(t *testing.T) {
	d := newDesk(t)
	d.begins(8)
	for _, s := range []string{"7", "2", "5", "4"} {
		d.does(s, 2, 7, 1)
	}
	d.runs("commit 5 > prepare 5 2 7 1", "commit 2 > prepare 2 2 7 1")
	d.ticks("")
	d.runs(
		"do 8 0 get k > hello 8 0", "vote 5 2 ok > commit 5 2; told 5 ok", "commit 7 > prepare 7 2 7 1", "do 6 3 get k > hello 6 3", "vote 2 2 ok > commit 2 2; told 2 ok",
		"welcome 6 3 1 > do 6 3 1 1 get k", "do 1 4 get k > hello 1 4",
	)
	all := "hello 1 4; do 6 3 1 1 get k; prepare 7 2 7 1; hello 8 0; commit 2 2; commit 5 2"
	d.ticks("", "", all, "")
	// One that is said behind them comes at its own time.
	d.runs("do 3 2 get k > hello 3 2", "commit 4 > prepare 4 2 7 1")
	d.ticks("", all, "hello 3 2; prepare 4 2 7 1", "", all, "hello 3 2; prepare 4 2 7 1")
	d.runs("vote 7 2 gone > abort 7 2; told 7 abort", "ack 2 2 >", "vote 4 2 ok > commit 4 2; told 4 ok")
	d.ticks("", "hello 1 4; do 6 3 1 1 get k; hello 8 0; commit 5 2", "hello 3 2; commit 4 2")
}

// P18.5: what was decided ahead of New comes at the next Tick, behind what is under way then, and from there on with what was said at that.
func TestTickNew(t *testing.T) {
	d := newDesk(t)
	d.decides("5", 3)
	d.lose()
	d.begins(2)
	d.does("2:2", 2, 7, 1)
	d.runs("commit 2:2 > prepare 2:2 2 7 1")
	d.ticks("commit 5 3")
	d.runs("vote 2:2 2 ok > commit 2:2 2; told 2:2 ok", "do 2:1 0 get k > hello 2:1 0")
	d.ticks("", "", "hello 2:1 0; commit 5 3; commit 2:2 2")
	d.lose()
	d.stands("", "5:3 2:2:2")
	d.ticks("commit 5 3; commit 2:2 2", "", "", "commit 5 3; commit 2:2 2")
}
