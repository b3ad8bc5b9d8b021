"""Runs of codes, row by row."""

from usewarden.runs import Run


def do_row(run, row):
    """Do what a row tells that the next row follows."""
    line = row[1]
    if row[0] == "open":
        run.new_handle(line, row[2])
    elif row[0] == "do":
        run.deed(line, run.handle_of(row[2]), row[3])
    elif row[0] == "copy":
        run.hold(row[2], run.handle_of(row[3]))
    elif row[0] == "drop":
        run.hold(row[2], None)
    else:
        run.tie(line, run.handle_of(row[2]), run.handle_of(row[3]))


def row_behind(run, row):
    """Do what the row to which the run has come tells; tell the number of the row that follows."""
    if row[0] == "jump":
        return row[2]
    if row[0] == "test":
        return run.at + 1 if run.takes_more(row[2]) else row[3]
    do_row(run, row)
    return run.at + 1


def log_of(code, run):
    """Go through the code by a run that has just begun; tell the log."""
    while code[run.at][0] != "end":
        run.come_to(row_behind(run, code[run.at]))
    run.end_all(code[run.at][1])
    return run.log


def run_code(code, inputs):
    """Tell the log of the code's run with the inputs."""
    return log_of(code, Run(inputs, []))
